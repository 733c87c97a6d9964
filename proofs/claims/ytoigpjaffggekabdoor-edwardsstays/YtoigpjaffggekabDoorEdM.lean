/-
  The walk of package edwards' multiples.
-/
import Derived.Test.YtoigpjaffggekabDoorEdX
namespace Go.Proofs.YtoigpjaffggekabDoor
open Go.RowKit Go.Proofs
set_option linter.unusedVariables false
set_option linter.unusedSimpArgs false
attribute [local go_sem ↓] Go.wp_at_zero Go.wp_at_succ

theorem zero_of : Ob.ofG 0 1 = Ob.gzero := Ob.ofG_val Ob.onG_zero

set_option maxHeartbeats 8000000 in
theorem emulW (x y k : Nat) (hx : x < 18446744073709551616) (hy : y < 18446744073709551616) (hk : k < 18446744073709551616) (w : World) :
    Calls Tryd.prog 7 #[.agg #[.int .u64 x, .int .u64 y], .int .u64 k] w fun e w' => e = .returned (edV (Ob.gmul (Ob.ofG x y) k)) ∧ Below w.heap.size w w' := by
  have c1 := ewidenW x y hx hy
  have c0 := ewidenW 0 1 (by decide) (by decide)
  rw [zero_of] at c0
  have ca : ∀ w, Calls Tryd.prog 19 #[.agg #[.int .u64 0, .int .u64 1]] w fun e w' => e = .returned (.agg #[.int .u64 0, .int .u64 1, .int .u64 1]) ∧ Below w.heap.size w w' := c0
  clear c0
  have cz := ezeroW
  have on0 : Hid (Ob.onG (Ob.ofG x y)) := Ob.ofG_on x y
  obtain ⟨u, hu⟩ : ∃ u, Hid (Ob.ofG x y = u) := ⟨_, rfl⟩
  rw [hu.out] at c1 on0 ⊢
  obtain ⟨T, hT⟩ : ∃ T, Hid (T = Ob.gmul u k) := ⟨_, rfl⟩
  have hstart : Hid (Ob.gadd Ob.gzero (Ob.gmul u k) = T) := by rw [hT.out]; exact Ob.zero_gadd (Ob.onG_mul on0.out k)
  rw [← hT.out]
  have hwu : Hid (Ob.Wide (u.1, u.2, 1) u) := Ob.Wide.of u
  obtain ⟨a, ha⟩ : ∃ a : Ob.Wt, Hid ((u.1, u.2, 1) = a) := ⟨_, rfl⟩
  rw [ha.out] at c1 hwu
  clear hT hu ha hx hy
  unfold wtV at c1
  go_enter Tryd.func7, Tryd.ntmps7
  go_upto_region 1 with (fail)
  have ta : Two ((w.alloc (.cells #[.int .u64 x, .int .u64 y] 24)).alloc (.cells #[.int .u64 0, .int .u64 0] 24)) w.heap.size (.int .u64 x) (.int .u64 y) := by (repeat' (first | (with_reducible first | assumption | exact Two.own (by with_reducible assumption) | refine Two.set ?_ _ _ | refine Own2.set ?_ _ _ | refine Two.drew ?_ | refine Two.drewN ?_ _ | refine Own2.drew ?_ | refine Own2.drewN ?_ _ | (refine Two.new ?_; simp only [szs]; done) | (refine Own2.new ?_; simp only [szs]; done) | refine Two.alloc ?_ _ | refine Own2.alloc ?_ _ | refine Two.far ?_ ?_ _ _ | refine Own2.far ?_ ?_ _ _ | refine Two.via (by with_reducible assumption) ?_ ?_ | refine Own2.via (by with_reducible assumption) ?_ ?_) | omega | (simp only [szs]; omega)))
  go_cut [5, 6] (fun s5 s6 wx => ∃ b5 b6 : Nat, s5 = .pointer (some ⟨b5, 0, none⟩) ∧ s6 = .pointer (some ⟨b6, 0, none⟩) ∧ b5 ≠ b6 ∧ w.heap.size + 1 < b5 ∧ w.heap.size + 1 < b6 ∧
    Two wx (w.heap.size + 1) (.int .u64 0) (.int .u64 0) ∧ Three wx b5 (.int .u64 0) (.int .u64 1) (.int .u64 1) ∧ Three wx b6 (.int .u64 (a.1.val : Nat)) (.int .u64 (a.2.1.val : Nat)) (.int .u64 (a.2.2.val : Nat)) ∧ Below w.heap.size w wx)
  case first =>
    have n1 : ¬ (w.heap.size + 1 + 1 = w.heap.size) := by omega
    have n2 : ¬ (w.heap.size = w.heap.size + 1 + 1) := by omega
    have n3 : ¬ (w.heap.size + 1 + 1 + 1 = w.heap.size) := by omega
    have n4 : ¬ (w.heap.size = w.heap.size + 1 + 1 + 1) := by omega
    go_region_held3 (fun w' => w'.cell? ⟨w.heap.size, 0, none⟩ = some (.int .u64 x) ∧ w'.cell? ⟨w.heap.size, 1, none⟩ = some (.int .u64 y)) (go_keep)
      ((first | (go_at_call 20; first | (with_reducible refine (cz _).mono ?_; rintro e w_cz ⟨rfl, b_cz⟩; have z_cz := b_cz.size; (try simp only [szs] at z_cz); (try (have q_cz_0 := own2 b_cz (w.heap.size) (by first | omega | (simp only [szs]; omega)))); (try (have q_cz_1 := own2 b_cz (w.heap.size + 1) (by first | omega | (simp only [szs]; omega)))); (try (have q_cz_2 := own3 b_cz (w.heap.size + 1 + 1) (by first | omega | (simp only [szs]; omega)))); (try (have q_cz_3 := own3 b_cz (w.heap.size + 1 + 1 + 1) (by first | omega | (simp only [szs]; omega)))); (try (have q_cz_4 := own3 b_cz (w_cz.heap.size) (by first | omega | (simp only [szs]; omega)))); (try (have q_cz_5 := own3 b_cz (w_cz.heap.size + 1) (by first | omega | (simp only [szs]; omega)))); (try (have q_cz_6 := own3 b_cz (w_ca.heap.size) (by first | omega | (simp only [szs]; omega)))); (try (have q_cz_7 := own3 b_cz (w_ca.heap.size + 1) (by first | omega | (simp only [szs]; omega)))); (try ((try have k1 : ¬ (w_ca.heap.size + 1 = w.heap.size) := by omega); (try have k2 : ¬ (w_cz.heap.size + 1 = w.heap.size) := by omega); (try have k3 : ¬ (w_ca.heap.size + 1 = w_cz.heap.size) := by omega); (try have k4 : ¬ (w_ca.heap.size + 1 = w.heap.size + 1 + 1) := by omega); (try have k5 : ¬ (w_cz.heap.size + 1 = w.heap.size + 1 + 1) := by omega))))) | (go_at_call 19; first | (with_reducible refine (ca _).mono ?_; rintro e w_ca ⟨rfl, b_ca⟩; have z_ca := b_ca.size; (try simp only [szs] at z_ca); (try (have q_ca_0 := own2 b_ca (w.heap.size) (by first | omega | (simp only [szs]; omega)))); (try (have q_ca_1 := own2 b_ca (w.heap.size + 1) (by first | omega | (simp only [szs]; omega)))); (try (have q_ca_2 := own3 b_ca (w.heap.size + 1 + 1) (by first | omega | (simp only [szs]; omega)))); (try (have q_ca_3 := own3 b_ca (w.heap.size + 1 + 1 + 1) (by first | omega | (simp only [szs]; omega)))); (try (have q_ca_4 := own3 b_ca (w_cz.heap.size) (by first | omega | (simp only [szs]; omega)))); (try (have q_ca_5 := own3 b_ca (w_cz.heap.size + 1) (by first | omega | (simp only [szs]; omega)))); (try (have q_ca_6 := own3 b_ca (w_ca.heap.size) (by first | omega | (simp only [szs]; omega)))); (try (have q_ca_7 := own3 b_ca (w_ca.heap.size + 1) (by first | omega | (simp only [szs]; omega)))); (try ((try have k1 : ¬ (w_ca.heap.size + 1 = w.heap.size) := by omega); (try have k2 : ¬ (w_cz.heap.size + 1 = w.heap.size) := by omega); (try have k3 : ¬ (w_ca.heap.size + 1 = w_cz.heap.size) := by omega); (try have k4 : ¬ (w_ca.heap.size + 1 = w.heap.size + 1 + 1) := by omega); (try have k5 : ¬ (w_cz.heap.size + 1 = w.heap.size + 1 + 1) := by omega)))) | (with_reducible refine (c1 _).mono ?_; rintro e w_c1 ⟨rfl, b_c1⟩; have z_c1 := b_c1.size; (try simp only [szs] at z_c1); (try (have q_c1_0 := own2 b_c1 (w.heap.size) (by first | omega | (simp only [szs]; omega)))); (try (have q_c1_1 := own2 b_c1 (w.heap.size + 1) (by first | omega | (simp only [szs]; omega)))); (try (have q_c1_2 := own3 b_c1 (w.heap.size + 1 + 1) (by first | omega | (simp only [szs]; omega)))); (try (have q_c1_3 := own3 b_c1 (w.heap.size + 1 + 1 + 1) (by first | omega | (simp only [szs]; omega)))); (try (have q_c1_4 := own3 b_c1 (w_cz.heap.size) (by first | omega | (simp only [szs]; omega)))); (try (have q_c1_5 := own3 b_c1 (w_cz.heap.size + 1) (by first | omega | (simp only [szs]; omega)))); (try (have q_c1_6 := own3 b_c1 (w_ca.heap.size) (by first | omega | (simp only [szs]; omega)))); (try (have q_c1_7 := own3 b_c1 (w_ca.heap.size + 1) (by first | omega | (simp only [szs]; omega)))); (try ((try have k1 : ¬ (w_ca.heap.size + 1 = w.heap.size) := by omega); (try have k2 : ¬ (w_cz.heap.size + 1 = w.heap.size) := by omega); (try have k3 : ¬ (w_ca.heap.size + 1 = w_cz.heap.size) := by omega); (try have k4 : ¬ (w_ca.heap.size + 1 = w.heap.size + 1 + 1) := by omega); (try have k5 : ¬ (w_cz.heap.size + 1 = w.heap.size + 1 + 1) := by omega)))))))
    all_goals
      go_wp2
      go_meet
      case rel => exact ⟨_, _, rfl, rfl, by omega, by omega, by omega, by (repeat' (first | (with_reducible first | assumption | exact Two.own (by with_reducible assumption) | refine Two.set ?_ _ _ | refine Own2.set ?_ _ _ | refine Two.drew ?_ | refine Two.drewN ?_ _ | refine Own2.drew ?_ | refine Own2.drewN ?_ _ | (refine Two.new ?_; simp only [szs]; done) | (refine Own2.new ?_; simp only [szs]; done) | refine Two.alloc ?_ _ | refine Own2.alloc ?_ _ | refine Two.far ?_ ?_ _ _ | refine Own2.far ?_ ?_ _ _ | refine Two.via (by with_reducible assumption) ?_ ?_ | refine Own2.via (by with_reducible assumption) ?_ ?_) | omega | (simp only [szs]; omega))), by (repeat' (first | (with_reducible first | assumption | exact Three.own (by with_reducible assumption) | refine Three.set ?_ _ _ _ | refine Own3.set ?_ _ _ _ | refine Three.drew ?_ | refine Three.drewN ?_ _ | refine Own3.drew ?_ | refine Own3.drewN ?_ _ | (refine Three.new ?_; simp only [szs]; done) | (refine Own3.new ?_; simp only [szs]; done) | refine Three.alloc ?_ _ | refine Own3.alloc ?_ _ | refine Three.far ?_ ?_ _ _ | refine Own3.far ?_ ?_ _ _ | refine Three.via (by with_reducible assumption) ?_ ?_ | refine Own3.via (by with_reducible assumption) ?_ ?_) | omega | (simp only [szs]; omega))), by (repeat' (first | (with_reducible first | assumption | exact Three.own (by with_reducible assumption) | refine Three.set ?_ _ _ _ | refine Own3.set ?_ _ _ _ | refine Three.drew ?_ | refine Three.drewN ?_ _ | refine Own3.drew ?_ | refine Own3.drewN ?_ _ | (refine Three.new ?_; simp only [szs]; done) | (refine Own3.new ?_; simp only [szs]; done) | refine Three.alloc ?_ _ | refine Own3.alloc ?_ _ | refine Three.far ?_ ?_ _ _ | refine Own3.far ?_ ?_ _ _ | refine Three.via (by with_reducible assumption) ?_ ?_ | refine Own3.via (by with_reducible assumption) ?_ ?_) | omega | (simp only [szs]; omega))), by (repeat' (first | (with_reducible first | exact Below.refl _ _ | assumption | refine Below.alloc ?_ ?_ _ | refine Below.drew ?_ | refine below_drewN ?_ _ | refine Below.setCell ?_ ?_ _ | refine below_via (by with_reducible assumption) ?_ ?_) | omega | (simp only [szs]; omega) | (simp only [szs] at *; omega)))⟩
  case rest =>
    obtain ⟨b5, b6, rfl, rfl, hne, l5, l6, tR, t5, t6, hB⟩ := hcut
    clear c1 ca cz ta
    have m1 : ¬ (b6 = b5) := fun h => hne h.symm
    have m2 : ¬ (b5 = w.heap.size + 1) := by omega
    have m3 : ¬ (b6 = w.heap.size + 1) := by omega
    have m4 : ¬ (w.heap.size + 1 = b5) := by omega
    have m5 : ¬ (w.heap.size + 1 = b6) := by omega
    go_wp2
    go_loopw [1] (fun se wr => ∃ (A B : Ob.Wt) (p q : Ob.Ep) (E : Nat), Hid (Ob.Wide A p) ∧ Hid (Ob.Wide B q) ∧ Hid (Ob.onG p) ∧ Hid (Ob.onG q) ∧ E < 18446744073709551616 ∧ se = .int .u64 E ∧
      Two wr (w.heap.size + 1) (.int .u64 0) (.int .u64 0) ∧ Three wr b5 (.int .u64 (A.1.val : Nat)) (.int .u64 (A.2.1.val : Nat)) (.int .u64 (A.2.2.val : Nat)) ∧ Three wr b6 (.int .u64 (B.1.val : Nat)) (.int .u64 (B.2.1.val : Nat)) (.int .u64 (B.2.2.val : Nat)) ∧ Below w.heap.size w wr ∧ Hid (Ob.gadd p (Ob.gmul q E) = T)) (fun se _ => (intOf se).toNat)
    case atStart =>
      exact ⟨(Ob.gzero.1, Ob.gzero.2, 1), a, Ob.gzero, u, k, Ob.Wide.of Ob.gzero, hwu, Ob.onG_zero, on0, hk, rfl, tR, t5, t6, hB, hstart⟩
    case round =>
      obtain ⟨A, B, p, q, E, hA, hBq, op, oq, hE, rfl, tR, t5, t6, hB, hI⟩ := hrel
      clear hstart hk hwu on0
      have ⟨d1, d2, d3, d4, d5⟩ := tR
      have ⟨e1, e2, e3, e4, e5, e6, e7⟩ := t5
      have ⟨g1, g2, g3, g4, g5, g6, g7⟩ := t6
      by_cases h0 : 0 < E
      · have hand := and_one E hE
        have sq := esumW B B
        have wq : Hid (Ob.Wide (Ob.wsum B B) (Ob.gadd q q)) := hBq.out.sum hBq.out oq.out oq.out
        have onq : Hid (Ob.onG (Ob.gadd q q)) := Ob.onG_add oq.out oq.out
        obtain ⟨B', hB'⟩ : ∃ B', Hid (B' = Ob.wsum B B) := ⟨_, rfl⟩
        rw [← hB'.out] at sq wq
        unfold wtV at sq
        by_cases h1 : E % 2 = 1
        · have h1' : ((E % 2 : Nat) : Int) = 1 := by omega
          rw [h1'] at hand
          clear h1'
          have ml := esumW A B
          have wp : Hid (Ob.Wide (Ob.wsum A B) (Ob.gadd p q)) := hA.out.sum hBq.out op.out oq.out
          have onp : Hid (Ob.onG (Ob.gadd p q)) := Ob.onG_add op.out oq.out
          obtain ⟨A', hA'⟩ : ∃ A', Hid (A' = Ob.wsum A B) := ⟨_, rfl⟩
          rw [← hA'.out] at ml wp
          unfold wtV at ml
          have hn : Hid (Ob.gadd (Ob.gadd p q) (Ob.gmul (Ob.gadd q q) (E / 2)) = T) := by rw [Ob.gmul_odd op.out oq.out _ h1]; exact hI
          clear h1 hI
          go_wp2_with (first | (go_at_call 18; first | (with_reducible refine (ml _).mono ?_; rintro e w_ml ⟨rfl, b_ml⟩; have z_ml := b_ml.size; (try simp only [szs] at z_ml); (try (have q_ml_0 := own2 b_ml (w.heap.size + 1) (by first | omega | (simp only [szs]; omega)))); (try (have q_ml_1 := own3 b_ml (b5) (by first | omega | (simp only [szs]; omega)))); (try (have q_ml_2 := own3 b_ml (b6) (by first | omega | (simp only [szs]; omega))))) | (with_reducible refine (sq _).mono ?_; rintro e w_sq ⟨rfl, b_sq⟩; have z_sq := b_sq.size; (try simp only [szs] at z_sq); (try (have q_sq_0 := own2 b_sq (w.heap.size + 1) (by first | omega | (simp only [szs]; omega)))); (try (have q_sq_1 := own3 b_sq (b5) (by first | omega | (simp only [szs]; omega)))); (try (have q_sq_2 := own3 b_sq (b6) (by first | omega | (simp only [szs]; omega)))))))
          go_roundw
          case rel => exact ⟨A', B', _, _, E / 2, wp, wq, onp, onq, by omega, by go_num, by (repeat' (first | (with_reducible first | assumption | exact Two.own (by with_reducible assumption) | refine Two.set ?_ _ _ | refine Own2.set ?_ _ _ | refine Two.drew ?_ | refine Two.drewN ?_ _ | refine Own2.drew ?_ | refine Own2.drewN ?_ _ | (refine Two.new ?_; simp only [szs]; done) | (refine Own2.new ?_; simp only [szs]; done) | refine Two.alloc ?_ _ | refine Own2.alloc ?_ _ | refine Two.far ?_ ?_ _ _ | refine Own2.far ?_ ?_ _ _ | refine Two.via (by with_reducible assumption) ?_ ?_ | refine Own2.via (by with_reducible assumption) ?_ ?_) | omega | (simp only [szs]; omega))), by (repeat' (first | (with_reducible first | assumption | exact Three.own (by with_reducible assumption) | refine Three.set ?_ _ _ _ | refine Own3.set ?_ _ _ _ | refine Three.drew ?_ | refine Three.drewN ?_ _ | refine Own3.drew ?_ | refine Own3.drewN ?_ _ | (refine Three.new ?_; simp only [szs]; done) | (refine Own3.new ?_; simp only [szs]; done) | refine Three.alloc ?_ _ | refine Own3.alloc ?_ _ | refine Three.far ?_ ?_ _ _ | refine Own3.far ?_ ?_ _ _ | refine Three.via (by with_reducible assumption) ?_ ?_ | refine Own3.via (by with_reducible assumption) ?_ ?_) | omega | (simp only [szs]; omega))), by (repeat' (first | (with_reducible first | assumption | exact Three.own (by with_reducible assumption) | refine Three.set ?_ _ _ _ | refine Own3.set ?_ _ _ _ | refine Three.drew ?_ | refine Three.drewN ?_ _ | refine Own3.drew ?_ | refine Own3.drewN ?_ _ | (refine Three.new ?_; simp only [szs]; done) | (refine Own3.new ?_; simp only [szs]; done) | refine Three.alloc ?_ _ | refine Own3.alloc ?_ _ | refine Three.far ?_ ?_ _ _ | refine Own3.far ?_ ?_ _ _ | refine Three.via (by with_reducible assumption) ?_ ?_ | refine Own3.via (by with_reducible assumption) ?_ ?_) | omega | (simp only [szs]; omega))), by (repeat' (first | (with_reducible first | exact Below.refl _ _ | assumption | refine Below.alloc ?_ ?_ _ | refine Below.drew ?_ | refine below_drewN ?_ _ | refine Below.setCell ?_ ?_ _ | refine below_via (by with_reducible assumption) ?_ ?_) | omega | (simp only [szs]; omega) | (simp only [szs] at *; omega))), hn⟩
          case measure => simp [intOf]; omega
        · have h1' : ((E % 2 : Nat) : Int) = 0 := by omega
          rw [h1'] at hand
          clear h1'
          have hn : Hid (Ob.gadd p (Ob.gmul (Ob.gadd q q) (E / 2)) = T) := by rw [Ob.gmul_even oq.out _ (by omega)]; exact hI
          clear h1 hI
          go_wp2_with (first | (go_at_call 18; first | (with_reducible refine (sq _).mono ?_; rintro e w_sq ⟨rfl, b_sq⟩; have z_sq := b_sq.size; (try simp only [szs] at z_sq); (try (have q_sq_0 := own2 b_sq (w.heap.size + 1) (by first | omega | (simp only [szs]; omega)))); (try (have q_sq_1 := own3 b_sq (b5) (by first | omega | (simp only [szs]; omega)))); (try (have q_sq_2 := own3 b_sq (b6) (by first | omega | (simp only [szs]; omega)))))))
          go_roundw
          case rel => exact ⟨A, B', p, _, E / 2, hA, wq, op, onq, by omega, by go_num, by (repeat' (first | (with_reducible first | assumption | exact Two.own (by with_reducible assumption) | refine Two.set ?_ _ _ | refine Own2.set ?_ _ _ | refine Two.drew ?_ | refine Two.drewN ?_ _ | refine Own2.drew ?_ | refine Own2.drewN ?_ _ | (refine Two.new ?_; simp only [szs]; done) | (refine Own2.new ?_; simp only [szs]; done) | refine Two.alloc ?_ _ | refine Own2.alloc ?_ _ | refine Two.far ?_ ?_ _ _ | refine Own2.far ?_ ?_ _ _ | refine Two.via (by with_reducible assumption) ?_ ?_ | refine Own2.via (by with_reducible assumption) ?_ ?_) | omega | (simp only [szs]; omega))), by (repeat' (first | (with_reducible first | assumption | exact Three.own (by with_reducible assumption) | refine Three.set ?_ _ _ _ | refine Own3.set ?_ _ _ _ | refine Three.drew ?_ | refine Three.drewN ?_ _ | refine Own3.drew ?_ | refine Own3.drewN ?_ _ | (refine Three.new ?_; simp only [szs]; done) | (refine Own3.new ?_; simp only [szs]; done) | refine Three.alloc ?_ _ | refine Own3.alloc ?_ _ | refine Three.far ?_ ?_ _ _ | refine Own3.far ?_ ?_ _ _ | refine Three.via (by with_reducible assumption) ?_ ?_ | refine Own3.via (by with_reducible assumption) ?_ ?_) | omega | (simp only [szs]; omega))), by (repeat' (first | (with_reducible first | assumption | exact Three.own (by with_reducible assumption) | refine Three.set ?_ _ _ _ | refine Own3.set ?_ _ _ _ | refine Three.drew ?_ | refine Three.drewN ?_ _ | refine Own3.drew ?_ | refine Own3.drewN ?_ _ | (refine Three.new ?_; simp only [szs]; done) | (refine Own3.new ?_; simp only [szs]; done) | refine Three.alloc ?_ _ | refine Own3.alloc ?_ _ | refine Three.far ?_ ?_ _ _ | refine Own3.far ?_ ?_ _ _ | refine Three.via (by with_reducible assumption) ?_ ?_ | refine Own3.via (by with_reducible assumption) ?_ ?_) | omega | (simp only [szs]; omega))), by (repeat' (first | (with_reducible first | exact Below.refl _ _ | assumption | refine Below.alloc ?_ ?_ _ | refine Below.drew ?_ | refine below_drewN ?_ _ | refine Below.setCell ?_ ?_ _ | refine below_via (by with_reducible assumption) ?_ ?_) | omega | (simp only [szs]; omega) | (simp only [szs] at *; omega))), hn⟩
          case measure => simp [intOf]; omega
      · have hn : Hid (p = T) := by
          have := hI.out
          have hE0 : E = 0 := by omega
          rw [hE0] at this
          exact (Ob.gadd_zero op.out).symm.trans this
        have cn := enarrowW hA.out
        unfold wtV edV at cn
        go_wp2_with (first | (go_at_call 17; first | (with_reducible refine (cn _).mono ?_; rintro e w_cn ⟨rfl, b_cn⟩; have z_cn := b_cn.size; (try simp only [szs] at z_cn); (try (have q_cn_0 := own2 b_cn (w.heap.size + 1) (by first | omega | (simp only [szs]; omega)))); (try (have q_cn_1 := own3 b_cn (b5) (by first | omega | (simp only [szs]; omega)))); (try (have q_cn_2 := own3 b_cn (b6) (by first | omega | (simp only [szs]; omega)))))))
        exact bodyPost_ret (v := .agg #[.int .u64 (p.1.val : Nat), .int .u64 (p.2.val : Nat)]) (by simp [results, Tryd.results7, go_sem, *]) rfl ⟨by rw [← hn.out]; rfl, by (repeat' (first | (with_reducible first | exact Below.refl _ _ | assumption | refine Below.alloc ?_ ?_ _ | refine Below.drew ?_ | refine below_drewN ?_ _ | refine Below.setCell ?_ ?_ _ | refine below_via (by with_reducible assumption) ?_ ?_) | omega | (simp only [szs]; omega) | (simp only [szs] at *; omega)))⟩
end Go.Proofs.YtoigpjaffggekabDoor
