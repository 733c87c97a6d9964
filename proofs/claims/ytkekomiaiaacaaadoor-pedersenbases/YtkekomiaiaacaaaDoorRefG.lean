/-
  The walks of the document's own answers for layer 7 (package obolref07): points, their sums and multiples.
-/
import Derived.Test.YtkekomiaiaacaaaDoorRefD
import Derived.Test.YtkekomiaiaacaaaDoorEdI
import Derived.Test.YtkekomiaiaacaaaDoorJ2
namespace Go.Proofs.YtkekomiaiaacaaaDoor
open Go.RowKit Go.Proofs
set_option linter.unusedVariables false
set_option linter.unusedSimpArgs false
attribute [local go_sem ↓] Go.wp_at_zero Go.wp_at_succ

theorem gmulF (a b : Fin Ob.RE) (w : World) :
    Calls Tryd.prog 36 #[.int .u64 (a.val : Nat), .int .u64 (b.val : Nat)] w fun e w' => e = .returned (.int .u64 ((a * b).val : Nat)) ∧ w = w' := by
  have := gmulW a.val b.val (Ob.G_word _) (Ob.G_word _) w
  rw [Ob.toG_of_val, Ob.toG_of_val] at this
  exact this
theorem gplusF (a b : Fin Ob.RE) (w : World) :
    Calls Tryd.prog 39 #[.int .u64 (a.val : Nat), .int .u64 (b.val : Nat)] w fun e w' => e = .returned (.int .u64 ((a + b).val : Nat)) ∧ w = w' := by
  have := gplusW a.val b.val (Ob.G_word _) (Ob.G_word _) w
  rw [Ob.toG_of_val, Ob.toG_of_val] at this
  exact this



set_option maxHeartbeats 4000000 in
theorem gsum_core (x1 y1 x2 y2 a b c k d f x y p q r s : Int) (w : World)
   (c0 : ∀ w, Calls Tryd.prog 36 #[.int .u64 x1, .int .u64 x2] w fun e w' => e = .returned (.int .u64 a) ∧ w = w')
   (c1 : ∀ w, Calls Tryd.prog 36 #[.int .u64 y1, .int .u64 y2] w fun e w' => e = .returned (.int .u64 b) ∧ w = w')
   (c2 : ∀ w, Calls Tryd.prog 36 #[.int .u64 a, .int .u64 b] w fun e w' => e = .returned (.int .u64 c) ∧ w = w')
   (c3 : ∀ w, Calls Tryd.prog 36 #[.int .u64 439, .int .u64 c] w fun e w' => e = .returned (.int .u64 k) ∧ w = w')
   (c4 : ∀ w, Calls Tryd.prog 36 #[.int .u64 x1, .int .u64 y2] w fun e w' => e = .returned (.int .u64 d) ∧ w = w')
   (c5 : ∀ w, Calls Tryd.prog 36 #[.int .u64 y1, .int .u64 x2] w fun e w' => e = .returned (.int .u64 f) ∧ w = w')
   (c6 : ∀ w, Calls Tryd.prog 39 #[.int .u64 d, .int .u64 f] w fun e w' => e = .returned (.int .u64 x) ∧ w = w')
   (c7 : ∀ w, Calls Tryd.prog 39 #[.int .u64 b, .int .u64 a] w fun e w' => e = .returned (.int .u64 y) ∧ w = w')
   (c8 : ∀ w, Calls Tryd.prog 39 #[.int .u64 1, .int .u64 k] w fun e w' => e = .returned (.int .u64 p) ∧ w = w')
   (c9 : ∀ w, Calls Tryd.prog 37 #[.int .u64 x, .int .u64 p] w fun e w' => e = .returned (.int .u64 r) ∧ w = w')
   (c10 : ∀ w, Calls Tryd.prog 38 #[.int .u64 1, .int .u64 k] w fun e w' => e = .returned (.int .u64 q) ∧ w = w')
   (c11 : ∀ w, Calls Tryd.prog 37 #[.int .u64 y, .int .u64 q] w fun e w' => e = .returned (.int .u64 s) ∧ w = w') :
    Calls Tryd.prog 24 #[.agg #[.int .u64 x1, .int .u64 y1], .agg #[.int .u64 x2, .int .u64 y2]] w fun e w' => e = .returned (.agg #[.int .u64 r, .int .u64 s]) ∧ Below w.heap.size w w' := by
  go_enter Tryd.func24, Tryd.ntmps24
  go_wp2
  go_region_held3 (fun w' => w'.cell? ⟨w.heap.size, 0, none⟩ = some (.int .u64 x1) ∧ w'.cell? ⟨w.heap.size, 1, none⟩ = some (.int .u64 y1) ∧ w'.cell? ⟨w.heap.size + 1, 0, none⟩ = some (.int .u64 x2) ∧ w'.cell? ⟨w.heap.size + 1, 1, none⟩ = some (.int .u64 y2)) (go_keep)
    ((first | (go_at_call 36; first | (with_reducible refine (c0 _).mono ?_; rintro e w' ⟨rfl, rfl⟩) | (with_reducible refine (c1 _).mono ?_; rintro e w' ⟨rfl, rfl⟩) | (with_reducible refine (c2 _).mono ?_; rintro e w' ⟨rfl, rfl⟩) | (with_reducible refine (c3 _).mono ?_; rintro e w' ⟨rfl, rfl⟩))))
  go_wp2
  go_region_held3 (fun w' => w'.cell? ⟨w.heap.size, 0, none⟩ = some (.int .u64 x1) ∧ w'.cell? ⟨w.heap.size, 1, none⟩ = some (.int .u64 y1) ∧ w'.cell? ⟨w.heap.size + 1, 0, none⟩ = some (.int .u64 x2) ∧ w'.cell? ⟨w.heap.size + 1, 1, none⟩ = some (.int .u64 y2)) (go_keep)
    ((first | (go_at_call 36; first | (with_reducible refine (c4 _).mono ?_; rintro e w' ⟨rfl, rfl⟩) | (with_reducible refine (c5 _).mono ?_; rintro e w' ⟨rfl, rfl⟩)) | (go_at_call 39; first | (with_reducible refine (c6 _).mono ?_; rintro e w' ⟨rfl, rfl⟩))))
  go_wp2
  go_region_held3 (fun w' => w'.cell? ⟨w.heap.size, 0, none⟩ = some (.int .u64 x1) ∧ w'.cell? ⟨w.heap.size, 1, none⟩ = some (.int .u64 y1) ∧ w'.cell? ⟨w.heap.size + 1, 0, none⟩ = some (.int .u64 x2) ∧ w'.cell? ⟨w.heap.size + 1, 1, none⟩ = some (.int .u64 y2)) (go_keep)
    ((first | (go_at_call 36; first | (with_reducible refine (c1 _).mono ?_; rintro e w' ⟨rfl, rfl⟩) | (with_reducible refine (c0 _).mono ?_; rintro e w' ⟨rfl, rfl⟩)) | (go_at_call 39; first | (with_reducible refine (c7 _).mono ?_; rintro e w' ⟨rfl, rfl⟩))))
  go_wp2_with (first | (go_at_call 39; first | (with_reducible refine (c8 _).mono ?_; rintro e w' ⟨rfl, rfl⟩)) | (go_at_call 37; first | (with_reducible refine (c9 _).mono ?_; rintro e w' ⟨rfl, rfl⟩) | (with_reducible refine (c11 _).mono ?_; rintro e w' ⟨rfl, rfl⟩)) | (go_at_call 38; first | (with_reducible refine (c10 _).mono ?_; rintro e w' ⟨rfl, rfl⟩)))
  exact bodyPost_ret (v := .agg #[.int .u64 r, .int .u64 s]) (by simp [results, Tryd.results24, go_sem, *]) rfl ⟨rfl, by (repeat' (first | (with_reducible first | exact Below.refl _ _ | assumption | refine Below.alloc ?_ ?_ _ | refine Below.drew ?_ | refine below_drewN ?_ _ | refine Below.setCell ?_ ?_ _ | refine below_via (by with_reducible assumption) ?_ ?_) | omega | (simp only [szs]; omega) | (simp only [szs] at *; omega)))⟩
theorem gsumW (u v : Ob.Ep) (w : World) :
    Calls Tryd.prog 24 #[edV u, edV v] w fun e w' => e = .returned (edV (Ob.gadd u v)) ∧ Below w.heap.size w w' := by
  have c3 := gmulW 439 (u.1 * v.1 * (u.2 * v.2)).val (by decide) (Ob.G_word _)
  rw [Ob.toG_of_val, Ob.toG_439] at c3
  have c8 := gplusW 1 (Ob.gk u v).val (by decide) (Ob.G_word _)
  have c10 := glessW 1 (Ob.gk u v).val (by decide) (Ob.G_word _)
  rw [Ob.toG_of_val, Ob.toG_1] at c8 c10
  have c9 := goverW (u.1 * v.2 + u.2 * v.1).val (1 + Ob.gk u v).val (Ob.G_word _) (Ob.G_word _)
  have c11 := goverW (u.2 * v.2 + u.1 * v.1).val (1 - Ob.gk u v).val (Ob.G_word _) (Ob.G_word _)
  rw [Ob.toG_of_val, Ob.toG_of_val] at c9 c11
  exact gsum_core _ _ _ _ _ _ _ _ _ _ _ _ _ _ _ _ w (gmulF _ _) (gmulF _ _) (gmulF _ _) c3 (gmulF _ _) (gmulF _ _) (gplusF _ _) (gplusF _ _) c8 c9 c10 c11

set_option maxHeartbeats 2000000 in
theorem gtimesW {u : Ob.Ep} (hu : Ob.onG u) (x : Nat) (hx : x < 18446744073709551616) (w : World) :
    Calls Tryd.prog 25 #[edV u, .int .u64 x] w fun e w' => e = .returned (edV (Ob.gmul u x)) ∧ Below w.heap.size w w' := by
  obtain ⟨T, hT⟩ : ∃ T, Hid (T = Ob.gmul u x) := ⟨_, rfl⟩
  rw [← hT.out]
  have on : Hid (Ob.onG u) := hu
  clear hu
  unfold edV
  go_enter Tryd.func25, Tryd.ntmps25
  go_wp2
  go_loopw [6] (fun si wr => ∃ (i : Nat) (p : Ob.Ep), i ≤ 64 ∧ si = .int .i64 i ∧
    Two wr w.heap.size (.int .u64 (u.1.val : Nat)) (.int .u64 (u.2.val : Nat)) ∧ Two wr (w.heap.size + 1) (.int .u64 0) (.int .u64 0) ∧ Two wr (w.heap.size + 1 + 1) (.int .u64 (p.1.val : Nat)) (.int .u64 (p.2.val : Nat)) ∧ Below w.heap.size w wr ∧ Hid (p = Ob.gmul u (x / 2 ^ (64 - i)))) (fun si _ => 64 - (intOf si).toNat)
  case atStart =>
    exact ⟨0, Ob.gzero, by omega, rfl, by (repeat' (first | (with_reducible first | assumption | exact Two.own (by with_reducible assumption) | refine Two.set ?_ _ _ | refine Own2.set ?_ _ _ | refine Two.drew ?_ | refine Two.drewN ?_ _ | refine Own2.drew ?_ | refine Own2.drewN ?_ _ | (refine Two.new ?_; simp only [szs]; done) | (refine Own2.new ?_; simp only [szs]; done) | refine Two.alloc ?_ _ | refine Own2.alloc ?_ _ | refine Two.far ?_ ?_ _ _ | refine Own2.far ?_ ?_ _ _ | refine Two.via (by with_reducible assumption) ?_ ?_ | refine Own2.via (by with_reducible assumption) ?_ ?_) | omega | (simp only [szs]; omega))), by (repeat' (first | (with_reducible first | assumption | exact Two.own (by with_reducible assumption) | refine Two.set ?_ _ _ | refine Own2.set ?_ _ _ | refine Two.drew ?_ | refine Two.drewN ?_ _ | refine Own2.drew ?_ | refine Own2.drewN ?_ _ | (refine Two.new ?_; simp only [szs]; done) | (refine Own2.new ?_; simp only [szs]; done) | refine Two.alloc ?_ _ | refine Own2.alloc ?_ _ | refine Two.far ?_ ?_ _ _ | refine Own2.far ?_ ?_ _ _ | refine Two.via (by with_reducible assumption) ?_ ?_ | refine Own2.via (by with_reducible assumption) ?_ ?_) | omega | (simp only [szs]; omega))), (show Two _ _ (.int .u64 0) (.int .u64 1) from by (repeat' (first | (with_reducible first | assumption | exact Two.own (by with_reducible assumption) | refine Two.set ?_ _ _ | refine Own2.set ?_ _ _ | refine Two.drew ?_ | refine Two.drewN ?_ _ | refine Own2.drew ?_ | refine Own2.drewN ?_ _ | (refine Two.new ?_; simp only [szs]; done) | (refine Own2.new ?_; simp only [szs]; done) | refine Two.alloc ?_ _ | refine Own2.alloc ?_ _ | refine Two.far ?_ ?_ _ _ | refine Own2.far ?_ ?_ _ _ | refine Two.via (by with_reducible assumption) ?_ ?_ | refine Own2.via (by with_reducible assumption) ?_ ?_) | omega | (simp only [szs]; omega)))), by (repeat' (first | (with_reducible first | exact Below.refl _ _ | assumption | refine Below.alloc ?_ ?_ _ | refine Below.drew ?_ | refine below_drewN ?_ _ | refine Below.setCell ?_ ?_ _ | refine below_via (by with_reducible assumption) ?_ ?_) | omega | (simp only [szs]; omega) | (simp only [szs] at *; omega))), by
      have : x / 2 ^ (64 - 0) = 0 := Nat.div_eq_of_lt (by omega)
      show Ob.gzero = Ob.gmul u (x / 2 ^ (64 - 0))
      rw [this]; rfl⟩
  case round =>
    obtain ⟨i, p, hi, rfl, t1, t2, t3, hB, hI⟩ := hrel
    have ⟨d1, d2, d3, d4, d5⟩ := t1
    have ⟨e1, e2, e3, e4, e5⟩ := t2
    have ⟨g1, g2, g3, g4, g5⟩ := t3
    by_cases hlt : i < 64
    · obtain ⟨k, hk⟩ : ∃ k, k + i = 63 := ⟨63 - i, by omega⟩
      have hyk : x / 2 ^ k < 18446744073709551616 := Nat.lt_of_le_of_lt (Nat.div_le_self _ _) (by omega)
      obtain ⟨t, ht⟩ : ∃ t : Nat, (x : Int) / 2 ^ (63 - i) = (t : Int) ∧ Hid (t = x / 2 ^ k) := ⟨x / 2 ^ k, by
        have : 63 - i = k := by omega
        rw [this]
        simp, rfl⟩
      obtain ⟨ht, htk⟩ := ht
      have hand := and_one t (by rw [htk.out]; exact hyk)
      have sq := gsumW p p
      have op : Hid (Ob.onG p) := by rw [hI.out]; exact Ob.onG_mul on.out _
      obtain ⟨q, hq⟩ : ∃ q, Hid (q = Ob.gadd p p) := ⟨_, rfl⟩
      rw [← hq.out] at sq
      unfold edV at sq
      have hI2 : Hid (Ob.gmul u (x / 2 ^ k) = Ob.gadd q (Ob.gmul u (t % 2))) := by
        have e1 : 64 - i = k + 1 := by omega
        have := hI.out
        rw [e1] at this
        show Ob.gmul u (x / 2 ^ k) = Ob.gadd q (Ob.gmul u (t % 2))
        rw [Ob.gmul_bit on.out, ← this, hq.out, ← htk.out]
      clear hI hyk htk
      have e2' : Hid (64 - (i + 1) = k) := by show 64 - (i + 1) = k; omega
      have ml := gsumW q u
      obtain ⟨s, hs⟩ : ∃ s, Hid (s = Ob.gadd q u) := ⟨_, rfl⟩
      rw [← hs.out] at ml
      unfold edV at ml
      have oq : Hid (Ob.onG q) := by rw [hq.out]; exact Ob.onG_add op.out op.out
      have r1 : t % 2 = 1 → s = Ob.gmul u (x / 2 ^ (64 - (i + 1))) := fun hbit => by
        rw [e2'.out, hI2.out, hbit, Ob.gmul_one on.out, hs.out]
      have r0 : t % 2 = 0 → q = Ob.gmul u (x / 2 ^ (64 - (i + 1))) := fun hbit => by
        rw [e2'.out, hI2.out, hbit]; exact (Ob.gadd_zero oq.out).symm
      by_cases hz : p = Ob.gzero
      · -- the double of 0 is 0, and is not taken
        have hqp : q = p := by rw [hq.out, hz]; exact Ob.gadd_zero Ob.onG_zero
        rw [hqp] at ml r0
        have z1 : ((p.1.val : Nat) : Int) = 0 := by rw [hz]; rfl
        have z2 : ((p.2.val : Nat) : Int) = 1 := by rw [hz]; rfl
        rw [z1, z2] at ml
        rw [z1] at g1
        rw [z2] at g2
        by_cases hbit : t % 2 = 1
        · have hb1 : ((t % 2 : Nat) : Int) = 1 := by omega
          rw [hb1] at hand
          have hr : Hid (s = Ob.gmul u (x / 2 ^ (64 - (i + 1)))) := r1 hbit
          clear hb1 r0 r1 hI2 hbit hz hqp hq hs oq op e2' sq z1 z2
          go_wp2_with (first | (go_at_call 24; first | (with_reducible refine (ml _).mono ?_; rintro e w_ml ⟨rfl, b_ml⟩; have z_ml := b_ml.size; (try simp only [szs] at z_ml); (try (have q_ml_0 := own2 b_ml (w.heap.size) (by first | omega | (simp only [szs]; omega)))); (try (have q_ml_1 := own2 b_ml (w.heap.size + 1) (by first | omega | (simp only [szs]; omega)))); (try (have q_ml_2 := own2 b_ml (w.heap.size + 1 + 1) (by first | omega | (simp only [szs]; omega)))))))
          go_roundw
          case rel => exact ⟨i + 1, s, by omega, by go_num, by (repeat' (first | (with_reducible first | assumption | exact Two.own (by with_reducible assumption) | refine Two.set ?_ _ _ | refine Own2.set ?_ _ _ | refine Two.drew ?_ | refine Two.drewN ?_ _ | refine Own2.drew ?_ | refine Own2.drewN ?_ _ | (refine Two.new ?_; simp only [szs]; done) | (refine Own2.new ?_; simp only [szs]; done) | refine Two.alloc ?_ _ | refine Own2.alloc ?_ _ | refine Two.far ?_ ?_ _ _ | refine Own2.far ?_ ?_ _ _ | refine Two.via (by with_reducible assumption) ?_ ?_ | refine Own2.via (by with_reducible assumption) ?_ ?_) | omega | (simp only [szs]; omega))), by (repeat' (first | (with_reducible first | assumption | exact Two.own (by with_reducible assumption) | refine Two.set ?_ _ _ | refine Own2.set ?_ _ _ | refine Two.drew ?_ | refine Two.drewN ?_ _ | refine Own2.drew ?_ | refine Own2.drewN ?_ _ | (refine Two.new ?_; simp only [szs]; done) | (refine Own2.new ?_; simp only [szs]; done) | refine Two.alloc ?_ _ | refine Own2.alloc ?_ _ | refine Two.far ?_ ?_ _ _ | refine Own2.far ?_ ?_ _ _ | refine Two.via (by with_reducible assumption) ?_ ?_ | refine Own2.via (by with_reducible assumption) ?_ ?_) | omega | (simp only [szs]; omega))), by (repeat' (first | (with_reducible first | assumption | exact Two.own (by with_reducible assumption) | refine Two.set ?_ _ _ | refine Own2.set ?_ _ _ | refine Two.drew ?_ | refine Two.drewN ?_ _ | refine Own2.drew ?_ | refine Own2.drewN ?_ _ | (refine Two.new ?_; simp only [szs]; done) | (refine Own2.new ?_; simp only [szs]; done) | refine Two.alloc ?_ _ | refine Own2.alloc ?_ _ | refine Two.far ?_ ?_ _ _ | refine Own2.far ?_ ?_ _ _ | refine Two.via (by with_reducible assumption) ?_ ?_ | refine Own2.via (by with_reducible assumption) ?_ ?_) | omega | (simp only [szs]; omega))), by (repeat' (first | (with_reducible first | exact Below.refl _ _ | assumption | refine Below.alloc ?_ ?_ _ | refine Below.drew ?_ | refine below_drewN ?_ _ | refine Below.setCell ?_ ?_ _ | refine below_via (by with_reducible assumption) ?_ ?_) | omega | (simp only [szs]; omega) | (simp only [szs] at *; omega))), hr⟩
          case measure => simp [intOf]; omega
        · have hb1 : ((t % 2 : Nat) : Int) = 0 := by omega
          rw [hb1] at hand
          have hr : Hid (p = Ob.gmul u (x / 2 ^ (64 - (i + 1)))) := r0 (by omega)
          clear hb1 r0 r1 hI2 hbit hz hqp hq hs oq op e2' sq z1 z2 ml
          go_wp2
          go_roundw
          case rel => exact ⟨i + 1, p, by omega, by go_num, by (repeat' (first | (with_reducible first | assumption | exact Two.own (by with_reducible assumption) | refine Two.set ?_ _ _ | refine Own2.set ?_ _ _ | refine Two.drew ?_ | refine Two.drewN ?_ _ | refine Own2.drew ?_ | refine Own2.drewN ?_ _ | (refine Two.new ?_; simp only [szs]; done) | (refine Own2.new ?_; simp only [szs]; done) | refine Two.alloc ?_ _ | refine Own2.alloc ?_ _ | refine Two.far ?_ ?_ _ _ | refine Own2.far ?_ ?_ _ _ | refine Two.via (by with_reducible assumption) ?_ ?_ | refine Own2.via (by with_reducible assumption) ?_ ?_) | omega | (simp only [szs]; omega))), by (repeat' (first | (with_reducible first | assumption | exact Two.own (by with_reducible assumption) | refine Two.set ?_ _ _ | refine Own2.set ?_ _ _ | refine Two.drew ?_ | refine Two.drewN ?_ _ | refine Own2.drew ?_ | refine Own2.drewN ?_ _ | (refine Two.new ?_; simp only [szs]; done) | (refine Own2.new ?_; simp only [szs]; done) | refine Two.alloc ?_ _ | refine Own2.alloc ?_ _ | refine Two.far ?_ ?_ _ _ | refine Own2.far ?_ ?_ _ _ | refine Two.via (by with_reducible assumption) ?_ ?_ | refine Own2.via (by with_reducible assumption) ?_ ?_) | omega | (simp only [szs]; omega))), by (repeat' (first | (with_reducible first | assumption | exact Two.own (by with_reducible assumption) | refine Two.set ?_ _ _ | refine Own2.set ?_ _ _ | refine Two.drew ?_ | refine Two.drewN ?_ _ | refine Own2.drew ?_ | refine Own2.drewN ?_ _ | (refine Two.new ?_; simp only [szs]; done) | (refine Own2.new ?_; simp only [szs]; done) | refine Two.alloc ?_ _ | refine Own2.alloc ?_ _ | refine Two.far ?_ ?_ _ _ | refine Own2.far ?_ ?_ _ _ | refine Two.via (by with_reducible assumption) ?_ ?_ | refine Own2.via (by with_reducible assumption) ?_ ?_) | omega | (simp only [szs]; omega))), by (repeat' (first | (with_reducible first | exact Below.refl _ _ | assumption | refine Below.alloc ?_ ?_ _ | refine Below.drew ?_ | refine below_drewN ?_ _ | refine Below.setCell ?_ ?_ _ | refine below_via (by with_reducible assumption) ?_ ?_) | omega | (simp only [szs]; omega) | (simp only [szs] at *; omega))), hr⟩
          case measure => simp [intOf]; omega
      · have hzz : ((((p.1.val : Nat) : Int) != 0) || (((p.2.val : Nat) : Int) != 1)) = true := by
          have := isZ_eq p
          unfold isZ at this
          rw [decide_eq_false hz] at this
          simp only [bne]
          rw [← Bool.not_and, this]; rfl
        clear hz
        have hx1 : (((p.1.val : Nat) : Int) = 0 ∧ ¬ ((p.2.val : Nat) : Int) = 1) ∨ ¬ (((p.1.val : Nat) : Int) = 0) := by
          simp only [Bool.or_eq_true, bne_iff_ne] at hzz
          omega
        clear hzz
        by_cases hbit : t % 2 = 1
        · have hb1 : ((t % 2 : Nat) : Int) = 1 := by omega
          rw [hb1] at hand
          have hr : Hid (s = Ob.gmul u (x / 2 ^ (64 - (i + 1)))) := r1 hbit
          clear hb1 r0 r1 hI2 hbit hq hs oq op e2'
          rcases hx1 with ⟨hx1, hx2⟩ | hx1
          · have hx1' : (((p.1.val : Nat) : Int) == 0) = true := by simpa using hx1
            have hx2' : (((p.2.val : Nat) : Int) == 1) = false := by simpa using hx2
            have hx3' : (((p.1.val : Nat) : Int) != 0) = false := by simpa using hx1
            have hx4' : (((p.2.val : Nat) : Int) != 1) = true := by simpa using hx2
            clear hx1
            go_wp2_with (first | (go_at_call 24; first | (with_reducible refine (sq _).mono ?_; rintro e w_sq ⟨rfl, b_sq⟩; have z_sq := b_sq.size; (try simp only [szs] at z_sq); (try (have q_sq_0 := own2 b_sq (w.heap.size) (by first | omega | (simp only [szs]; omega)))); (try (have q_sq_1 := own2 b_sq (w.heap.size + 1) (by first | omega | (simp only [szs]; omega)))); (try (have q_sq_2 := own2 b_sq (w.heap.size + 1 + 1) (by first | omega | (simp only [szs]; omega))))) | (with_reducible refine (ml _).mono ?_; rintro e w_ml ⟨rfl, b_ml⟩; have z_ml := b_ml.size; (try simp only [szs] at z_ml); (try (have q_ml_0 := own2 b_ml (w.heap.size) (by first | omega | (simp only [szs]; omega)))); (try (have q_ml_1 := own2 b_ml (w.heap.size + 1) (by first | omega | (simp only [szs]; omega)))); (try (have q_ml_2 := own2 b_ml (w.heap.size + 1 + 1) (by first | omega | (simp only [szs]; omega)))))))
            go_roundw
            case rel => exact ⟨i + 1, s, by omega, by go_num, by (repeat' (first | (with_reducible first | assumption | exact Two.own (by with_reducible assumption) | refine Two.set ?_ _ _ | refine Own2.set ?_ _ _ | refine Two.drew ?_ | refine Two.drewN ?_ _ | refine Own2.drew ?_ | refine Own2.drewN ?_ _ | (refine Two.new ?_; simp only [szs]; done) | (refine Own2.new ?_; simp only [szs]; done) | refine Two.alloc ?_ _ | refine Own2.alloc ?_ _ | refine Two.far ?_ ?_ _ _ | refine Own2.far ?_ ?_ _ _ | refine Two.via (by with_reducible assumption) ?_ ?_ | refine Own2.via (by with_reducible assumption) ?_ ?_) | omega | (simp only [szs]; omega))), by (repeat' (first | (with_reducible first | assumption | exact Two.own (by with_reducible assumption) | refine Two.set ?_ _ _ | refine Own2.set ?_ _ _ | refine Two.drew ?_ | refine Two.drewN ?_ _ | refine Own2.drew ?_ | refine Own2.drewN ?_ _ | (refine Two.new ?_; simp only [szs]; done) | (refine Own2.new ?_; simp only [szs]; done) | refine Two.alloc ?_ _ | refine Own2.alloc ?_ _ | refine Two.far ?_ ?_ _ _ | refine Own2.far ?_ ?_ _ _ | refine Two.via (by with_reducible assumption) ?_ ?_ | refine Own2.via (by with_reducible assumption) ?_ ?_) | omega | (simp only [szs]; omega))), by (repeat' (first | (with_reducible first | assumption | exact Two.own (by with_reducible assumption) | refine Two.set ?_ _ _ | refine Own2.set ?_ _ _ | refine Two.drew ?_ | refine Two.drewN ?_ _ | refine Own2.drew ?_ | refine Own2.drewN ?_ _ | (refine Two.new ?_; simp only [szs]; done) | (refine Own2.new ?_; simp only [szs]; done) | refine Two.alloc ?_ _ | refine Own2.alloc ?_ _ | refine Two.far ?_ ?_ _ _ | refine Own2.far ?_ ?_ _ _ | refine Two.via (by with_reducible assumption) ?_ ?_ | refine Own2.via (by with_reducible assumption) ?_ ?_) | omega | (simp only [szs]; omega))), by (repeat' (first | (with_reducible first | exact Below.refl _ _ | assumption | refine Below.alloc ?_ ?_ _ | refine Below.drew ?_ | refine below_drewN ?_ _ | refine Below.setCell ?_ ?_ _ | refine below_via (by with_reducible assumption) ?_ ?_) | omega | (simp only [szs]; omega) | (simp only [szs] at *; omega))), hr⟩
            case measure => simp [intOf]; omega
          · have hx3' : (((p.1.val : Nat) : Int) != 0) = true := by simpa using hx1
            go_wp2_with (first | (go_at_call 24; first | (with_reducible refine (sq _).mono ?_; rintro e w_sq ⟨rfl, b_sq⟩; have z_sq := b_sq.size; (try simp only [szs] at z_sq); (try (have q_sq_0 := own2 b_sq (w.heap.size) (by first | omega | (simp only [szs]; omega)))); (try (have q_sq_1 := own2 b_sq (w.heap.size + 1) (by first | omega | (simp only [szs]; omega)))); (try (have q_sq_2 := own2 b_sq (w.heap.size + 1 + 1) (by first | omega | (simp only [szs]; omega))))) | (with_reducible refine (ml _).mono ?_; rintro e w_ml ⟨rfl, b_ml⟩; have z_ml := b_ml.size; (try simp only [szs] at z_ml); (try (have q_ml_0 := own2 b_ml (w.heap.size) (by first | omega | (simp only [szs]; omega)))); (try (have q_ml_1 := own2 b_ml (w.heap.size + 1) (by first | omega | (simp only [szs]; omega)))); (try (have q_ml_2 := own2 b_ml (w.heap.size + 1 + 1) (by first | omega | (simp only [szs]; omega)))))))
            go_roundw
            case rel => exact ⟨i + 1, s, by omega, by go_num, by (repeat' (first | (with_reducible first | assumption | exact Two.own (by with_reducible assumption) | refine Two.set ?_ _ _ | refine Own2.set ?_ _ _ | refine Two.drew ?_ | refine Two.drewN ?_ _ | refine Own2.drew ?_ | refine Own2.drewN ?_ _ | (refine Two.new ?_; simp only [szs]; done) | (refine Own2.new ?_; simp only [szs]; done) | refine Two.alloc ?_ _ | refine Own2.alloc ?_ _ | refine Two.far ?_ ?_ _ _ | refine Own2.far ?_ ?_ _ _ | refine Two.via (by with_reducible assumption) ?_ ?_ | refine Own2.via (by with_reducible assumption) ?_ ?_) | omega | (simp only [szs]; omega))), by (repeat' (first | (with_reducible first | assumption | exact Two.own (by with_reducible assumption) | refine Two.set ?_ _ _ | refine Own2.set ?_ _ _ | refine Two.drew ?_ | refine Two.drewN ?_ _ | refine Own2.drew ?_ | refine Own2.drewN ?_ _ | (refine Two.new ?_; simp only [szs]; done) | (refine Own2.new ?_; simp only [szs]; done) | refine Two.alloc ?_ _ | refine Own2.alloc ?_ _ | refine Two.far ?_ ?_ _ _ | refine Own2.far ?_ ?_ _ _ | refine Two.via (by with_reducible assumption) ?_ ?_ | refine Own2.via (by with_reducible assumption) ?_ ?_) | omega | (simp only [szs]; omega))), by (repeat' (first | (with_reducible first | assumption | exact Two.own (by with_reducible assumption) | refine Two.set ?_ _ _ | refine Own2.set ?_ _ _ | refine Two.drew ?_ | refine Two.drewN ?_ _ | refine Own2.drew ?_ | refine Own2.drewN ?_ _ | (refine Two.new ?_; simp only [szs]; done) | (refine Own2.new ?_; simp only [szs]; done) | refine Two.alloc ?_ _ | refine Own2.alloc ?_ _ | refine Two.far ?_ ?_ _ _ | refine Own2.far ?_ ?_ _ _ | refine Two.via (by with_reducible assumption) ?_ ?_ | refine Own2.via (by with_reducible assumption) ?_ ?_) | omega | (simp only [szs]; omega))), by (repeat' (first | (with_reducible first | exact Below.refl _ _ | assumption | refine Below.alloc ?_ ?_ _ | refine Below.drew ?_ | refine below_drewN ?_ _ | refine Below.setCell ?_ ?_ _ | refine below_via (by with_reducible assumption) ?_ ?_) | omega | (simp only [szs]; omega) | (simp only [szs] at *; omega))), hr⟩
            case measure => simp [intOf]; omega
        · have hb1 : ((t % 2 : Nat) : Int) = 0 := by omega
          rw [hb1] at hand
          have hr : Hid (q = Ob.gmul u (x / 2 ^ (64 - (i + 1)))) := r0 (by omega)
          clear hb1 r0 r1 hI2 hbit hq hs oq op e2' ml
          rcases hx1 with ⟨hx1, hx2⟩ | hx1
          · have hx1' : (((p.1.val : Nat) : Int) == 0) = true := by simpa using hx1
            have hx2' : (((p.2.val : Nat) : Int) == 1) = false := by simpa using hx2
            have hx3' : (((p.1.val : Nat) : Int) != 0) = false := by simpa using hx1
            have hx4' : (((p.2.val : Nat) : Int) != 1) = true := by simpa using hx2
            clear hx1
            go_wp2_with (first | (go_at_call 24; first | (with_reducible refine (sq _).mono ?_; rintro e w_sq ⟨rfl, b_sq⟩; have z_sq := b_sq.size; (try simp only [szs] at z_sq); (try (have q_sq_0 := own2 b_sq (w.heap.size) (by first | omega | (simp only [szs]; omega)))); (try (have q_sq_1 := own2 b_sq (w.heap.size + 1) (by first | omega | (simp only [szs]; omega)))); (try (have q_sq_2 := own2 b_sq (w.heap.size + 1 + 1) (by first | omega | (simp only [szs]; omega)))))))
            go_roundw
            case rel => exact ⟨i + 1, q, by omega, by go_num, by (repeat' (first | (with_reducible first | assumption | exact Two.own (by with_reducible assumption) | refine Two.set ?_ _ _ | refine Own2.set ?_ _ _ | refine Two.drew ?_ | refine Two.drewN ?_ _ | refine Own2.drew ?_ | refine Own2.drewN ?_ _ | (refine Two.new ?_; simp only [szs]; done) | (refine Own2.new ?_; simp only [szs]; done) | refine Two.alloc ?_ _ | refine Own2.alloc ?_ _ | refine Two.far ?_ ?_ _ _ | refine Own2.far ?_ ?_ _ _ | refine Two.via (by with_reducible assumption) ?_ ?_ | refine Own2.via (by with_reducible assumption) ?_ ?_) | omega | (simp only [szs]; omega))), by (repeat' (first | (with_reducible first | assumption | exact Two.own (by with_reducible assumption) | refine Two.set ?_ _ _ | refine Own2.set ?_ _ _ | refine Two.drew ?_ | refine Two.drewN ?_ _ | refine Own2.drew ?_ | refine Own2.drewN ?_ _ | (refine Two.new ?_; simp only [szs]; done) | (refine Own2.new ?_; simp only [szs]; done) | refine Two.alloc ?_ _ | refine Own2.alloc ?_ _ | refine Two.far ?_ ?_ _ _ | refine Own2.far ?_ ?_ _ _ | refine Two.via (by with_reducible assumption) ?_ ?_ | refine Own2.via (by with_reducible assumption) ?_ ?_) | omega | (simp only [szs]; omega))), by (repeat' (first | (with_reducible first | assumption | exact Two.own (by with_reducible assumption) | refine Two.set ?_ _ _ | refine Own2.set ?_ _ _ | refine Two.drew ?_ | refine Two.drewN ?_ _ | refine Own2.drew ?_ | refine Own2.drewN ?_ _ | (refine Two.new ?_; simp only [szs]; done) | (refine Own2.new ?_; simp only [szs]; done) | refine Two.alloc ?_ _ | refine Own2.alloc ?_ _ | refine Two.far ?_ ?_ _ _ | refine Own2.far ?_ ?_ _ _ | refine Two.via (by with_reducible assumption) ?_ ?_ | refine Own2.via (by with_reducible assumption) ?_ ?_) | omega | (simp only [szs]; omega))), by (repeat' (first | (with_reducible first | exact Below.refl _ _ | assumption | refine Below.alloc ?_ ?_ _ | refine Below.drew ?_ | refine below_drewN ?_ _ | refine Below.setCell ?_ ?_ _ | refine below_via (by with_reducible assumption) ?_ ?_) | omega | (simp only [szs]; omega) | (simp only [szs] at *; omega))), hr⟩
            case measure => simp [intOf]; omega
          · have hx3' : (((p.1.val : Nat) : Int) != 0) = true := by simpa using hx1
            go_wp2_with (first | (go_at_call 24; first | (with_reducible refine (sq _).mono ?_; rintro e w_sq ⟨rfl, b_sq⟩; have z_sq := b_sq.size; (try simp only [szs] at z_sq); (try (have q_sq_0 := own2 b_sq (w.heap.size) (by first | omega | (simp only [szs]; omega)))); (try (have q_sq_1 := own2 b_sq (w.heap.size + 1) (by first | omega | (simp only [szs]; omega)))); (try (have q_sq_2 := own2 b_sq (w.heap.size + 1 + 1) (by first | omega | (simp only [szs]; omega)))))))
            go_roundw
            case rel => exact ⟨i + 1, q, by omega, by go_num, by (repeat' (first | (with_reducible first | assumption | exact Two.own (by with_reducible assumption) | refine Two.set ?_ _ _ | refine Own2.set ?_ _ _ | refine Two.drew ?_ | refine Two.drewN ?_ _ | refine Own2.drew ?_ | refine Own2.drewN ?_ _ | (refine Two.new ?_; simp only [szs]; done) | (refine Own2.new ?_; simp only [szs]; done) | refine Two.alloc ?_ _ | refine Own2.alloc ?_ _ | refine Two.far ?_ ?_ _ _ | refine Own2.far ?_ ?_ _ _ | refine Two.via (by with_reducible assumption) ?_ ?_ | refine Own2.via (by with_reducible assumption) ?_ ?_) | omega | (simp only [szs]; omega))), by (repeat' (first | (with_reducible first | assumption | exact Two.own (by with_reducible assumption) | refine Two.set ?_ _ _ | refine Own2.set ?_ _ _ | refine Two.drew ?_ | refine Two.drewN ?_ _ | refine Own2.drew ?_ | refine Own2.drewN ?_ _ | (refine Two.new ?_; simp only [szs]; done) | (refine Own2.new ?_; simp only [szs]; done) | refine Two.alloc ?_ _ | refine Own2.alloc ?_ _ | refine Two.far ?_ ?_ _ _ | refine Own2.far ?_ ?_ _ _ | refine Two.via (by with_reducible assumption) ?_ ?_ | refine Own2.via (by with_reducible assumption) ?_ ?_) | omega | (simp only [szs]; omega))), by (repeat' (first | (with_reducible first | assumption | exact Two.own (by with_reducible assumption) | refine Two.set ?_ _ _ | refine Own2.set ?_ _ _ | refine Two.drew ?_ | refine Two.drewN ?_ _ | refine Own2.drew ?_ | refine Own2.drewN ?_ _ | (refine Two.new ?_; simp only [szs]; done) | (refine Own2.new ?_; simp only [szs]; done) | refine Two.alloc ?_ _ | refine Own2.alloc ?_ _ | refine Two.far ?_ ?_ _ _ | refine Own2.far ?_ ?_ _ _ | refine Two.via (by with_reducible assumption) ?_ ?_ | refine Own2.via (by with_reducible assumption) ?_ ?_) | omega | (simp only [szs]; omega))), by (repeat' (first | (with_reducible first | exact Below.refl _ _ | assumption | refine Below.alloc ?_ ?_ _ | refine Below.drew ?_ | refine below_drewN ?_ _ | refine Below.setCell ?_ ?_ _ | refine below_via (by with_reducible assumption) ?_ ?_) | omega | (simp only [szs]; omega) | (simp only [szs] at *; omega))), hr⟩
            case measure => simp [intOf]; omega
    · have hi64 : i = 64 := by omega
      have hn : Hid (p = T) := by
        have := hI.out
        rw [hi64] at this
        show p = T
        rw [hT.out]
        simpa using this
      go_wp2
      exact bodyPost_ret (v := .agg #[.int .u64 (p.1.val : Nat), .int .u64 (p.2.val : Nat)]) (by simp [results, Tryd.results25, go_sem, *]) rfl ⟨by rw [← hn.out], by (repeat' (first | (with_reducible first | exact Below.refl _ _ | assumption | refine Below.alloc ?_ ?_ _ | refine Below.drew ?_ | refine below_drewN ?_ _ | refine Below.setCell ?_ ?_ _ | refine below_via (by with_reducible assumption) ?_ ?_) | omega | (simp only [szs]; omega) | (simp only [szs] at *; omega)))⟩

end Go.Proofs.YtkekomiaiaacaaaDoor
