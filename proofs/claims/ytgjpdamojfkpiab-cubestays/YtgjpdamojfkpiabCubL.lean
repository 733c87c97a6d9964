/-
  The walk of package cube: the last place at which two lists are apart.
-/
import Derived.Test.YtgjpdamojfkpiabCubC
import Derived.Test.YtgjpdamojfkpiabKit4
namespace Go.Proofs.Ytgjpdamojfkpiab
open Go.RowKit Go.Proofs
set_option linter.unusedVariables false
set_option linter.unusedSimpArgs false
attribute [local go_sem ↓] Go.wp_at_zero Go.wp_at_succ
attribute [local irreducible] Ob.twoG
set_option maxHeartbeats 8000000 in
theorem ulastW (a b : Option Addr) (m c d : Nat) (hm : m ≤ 1000000) (u v : Nat → Nat) (hu : ∀ i, u i < 18446744073709551616) (hv : ∀ i, v i < 18446744073709551616) (w : World) (ha : SrcW w.heap.size w a m u) (hb : SrcW w.heap.size w b m v) :
    Calls Try.prog 11 #[.slice a m c, .slice b m d] w fun e w' => e = .returned (.tuple #[.agg #[.int .u64 (laH m u (clashAt m u v m) : Nat), .int .u64 (laN u (clashAt m u v m) : Nat)], .agg #[.int .u64 (laH m v (clashAt m u v m) : Nat), .int .u64 (laN v (clashAt m u v m) : Nat)], .bool (isAp (clashAt m u v m) && decide (hdN m u m = hdN m v m))]) ∧ Below w.heap.size w w' := by
  have ha' : Hid (SrcW w.heap.size w a m u) := ha
  have hb' : Hid (SrcW w.heap.size w b m v) := hb
  have hu' : Hid (∀ i, u i < 18446744073709551616) := hu
  have hv' : Hid (∀ i, v i < 18446744073709551616) := hv
  have cf := ufirstW a m c hm
  have cg := ufirstW b m d hm
  have h0 : Hid (clashAt m u v 0 = none ∧ hdN m u 0 = m ∧ hdN m v 0 = m) := ⟨rfl, hdN_zero m u (by omega), hdN_zero m v (by omega)⟩
  obtain ⟨CL, hCL⟩ : ∃ CL, Hid (clashAt m u v m = CL) := ⟨_, rfl⟩
  rw [hCL.out]
  obtain ⟨TA, hTA⟩ : ∃ T, Hid (hdN m u m = T) := ⟨_, rfl⟩
  obtain ⟨TB, hTB⟩ : ∃ T, Hid (hdN m v m = T) := ⟨_, rfl⟩
  rw [hTA.out, hTB.out]
  obtain ⟨RA, hRA⟩ : ∃ T, Hid (laH m u CL = T) := ⟨_, rfl⟩
  obtain ⟨RB, hRB⟩ : ∃ T, Hid (laN u CL = T) := ⟨_, rfl⟩
  obtain ⟨RC, hRC⟩ : ∃ T, Hid (laH m v CL = T) := ⟨_, rfl⟩
  obtain ⟨RD, hRD⟩ : ∃ T, Hid (laN v CL = T) := ⟨_, rfl⟩
  obtain ⟨RE, hRE⟩ : ∃ T, Hid ((isAp CL && decide (TA = TB)) = T) := ⟨_, rfl⟩
  rw [hRA.out, hRB.out, hRC.out, hRD.out, hRE.out]
  clear ha hb hu hv
  go_enter Try.func11, Try.ntmps11
  go_wp2_with (first | (go_at_call 10; first | (with_reducible refine (cf _).mono ?_; rintro e w' ⟨rfl, rfl⟩) | (with_reducible refine (cg _).mono ?_; rintro e w' ⟨rfl, rfl⟩)))
  clear cf cg
  go_loopw [9, 10, 11, 21] (fun sap sh sg si wr => ∃ (i h g A B C D : Nat) (cl : Option Nat), i ≤ m ∧ sap = .bool (isAp cl) ∧ sh = .int .u64 h ∧ sg = .int .u64 g ∧ si = .int .i64 i ∧ Two wr w.heap.size (.int .u64 0) (.int .u64 0) ∧ Two wr (w.heap.size + 1) (.int .u64 0) (.int .u64 0) ∧ Two wr (w.heap.size + 1 + 1) (.int .u64 A) (.int .u64 B) ∧ Two wr (w.heap.size + 1 + 1 + 1) (.int .u64 C) (.int .u64 D) ∧ Below w.heap.size w wr ∧ Hid (clashAt m u v i = cl ∧ hdN m u i = h ∧ hdN m v i = g ∧ laH m u cl = A ∧ laN u cl = B ∧ laH m v cl = C ∧ laN v cl = D)) (fun _ _ _ si _ => m - (intOf si).toNat)
  case atStart => exact ⟨0, m, m, 0, 0, 0, 0, none, by omega, rfl, rfl, rfl, rfl, by (repeat' (first | (with_reducible first | assumption | exact Two.own (by with_reducible assumption) | refine Two.set ?_ _ _ | refine Own2.set ?_ _ _ | refine Two.drew ?_ | refine Two.drewN ?_ _ | refine Own2.drew ?_ | refine Own2.drewN ?_ _ | (refine Two.new ?_; simp only [szs]; done) | (refine Own2.new ?_; simp only [szs]; done) | refine Two.alloc ?_ _ | refine Own2.alloc ?_ _ | refine Two.far ?_ ?_ _ _ | refine Own2.far ?_ ?_ _ _ | refine Two.via (by with_reducible assumption) ?_ ?_ | refine Own2.via (by with_reducible assumption) ?_ ?_) | omega | (simp only [szs]; omega))), by (repeat' (first | (with_reducible first | assumption | exact Two.own (by with_reducible assumption) | refine Two.set ?_ _ _ | refine Own2.set ?_ _ _ | refine Two.drew ?_ | refine Two.drewN ?_ _ | refine Own2.drew ?_ | refine Own2.drewN ?_ _ | (refine Two.new ?_; simp only [szs]; done) | (refine Own2.new ?_; simp only [szs]; done) | refine Two.alloc ?_ _ | refine Own2.alloc ?_ _ | refine Two.far ?_ ?_ _ _ | refine Own2.far ?_ ?_ _ _ | refine Two.via (by with_reducible assumption) ?_ ?_ | refine Own2.via (by with_reducible assumption) ?_ ?_) | omega | (simp only [szs]; omega))), (show Two _ _ (.int .u64 0) (.int .u64 0) from by (repeat' (first | (with_reducible first | assumption | exact Two.own (by with_reducible assumption) | refine Two.set ?_ _ _ | refine Own2.set ?_ _ _ | refine Two.drew ?_ | refine Two.drewN ?_ _ | refine Own2.drew ?_ | refine Own2.drewN ?_ _ | (refine Two.new ?_; simp only [szs]; done) | (refine Own2.new ?_; simp only [szs]; done) | refine Two.alloc ?_ _ | refine Own2.alloc ?_ _ | refine Two.far ?_ ?_ _ _ | refine Own2.far ?_ ?_ _ _ | refine Two.via (by with_reducible assumption) ?_ ?_ | refine Own2.via (by with_reducible assumption) ?_ ?_) | omega | (simp only [szs]; omega)))), (show Two _ _ (.int .u64 0) (.int .u64 0) from by (repeat' (first | (with_reducible first | assumption | exact Two.own (by with_reducible assumption) | refine Two.set ?_ _ _ | refine Own2.set ?_ _ _ | refine Two.drew ?_ | refine Two.drewN ?_ _ | refine Own2.drew ?_ | refine Own2.drewN ?_ _ | (refine Two.new ?_; simp only [szs]; done) | (refine Own2.new ?_; simp only [szs]; done) | refine Two.alloc ?_ _ | refine Own2.alloc ?_ _ | refine Two.far ?_ ?_ _ _ | refine Own2.far ?_ ?_ _ _ | refine Two.via (by with_reducible assumption) ?_ ?_ | refine Own2.via (by with_reducible assumption) ?_ ?_) | omega | (simp only [szs]; omega)))), by (repeat' (first | (with_reducible first | exact Below.refl _ _ | assumption | refine Below.alloc ?_ ?_ _ | refine Below.drew ?_ | refine below_drewN ?_ _ | refine Below.setCell ?_ ?_ _ | refine below_via (by with_reducible assumption) ?_ ?_) | omega | (simp only [szs]; omega) | (simp only [szs] at *; omega))), h0.out.1, h0.out.2.1, h0.out.2.2, rfl, rfl, rfl, rfl⟩
  case round =>
    clear h0
    obtain ⟨i, h, g, A, B, C, D, cl, hi, rfl, rfl, rfl, rfl, t0, t1, t2, t3, hB, hI⟩ := hrel
    have zB := hB.size
    by_cases hlt : i < m
    · have hlt' : (i : Int) < (m : Int) := by omega
      rcases ha'.out with hn | ⟨ba, oa, rfl, lba, wba⟩
      · omega
      rcases hb'.out with hn | ⟨bb, ob, rfl, lbb, wbb⟩
      · omega
      have d1 := (wba.below hB lba).at_ i hlt
      have d2 := (wbb.below hB lbb).at_ i hlt
      have c1 := urestW (u i) (hu'.out i)
      have c2 := urestW (v i) (hv'.out i)
      have c3 := fun w => uhash_core _ _ _ w (utwoW (hdN m u i) (Ob.toG (u i)).val (hdN_lt _ _ _) (G_lt _))
      have c4 := fun w => uhash_core _ _ _ w (utwoW (hdN m v i) (Ob.toG (v i)).val (hdN_lt _ _ _) (G_lt _))
      rw [hdN_two] at c3 c4
      have hI0 : Hid (hdN m u i = h ∧ hdN m v i = g) := ⟨hI.out.2.1, hI.out.2.2.1⟩
      rw [hI0.out.1] at c3
      rw [hI0.out.2] at c4
      obtain ⟨ru, hru⟩ : ∃ r, Hid ((Ob.toG (u i)).val = r) := ⟨_, rfl⟩
      obtain ⟨rv, hrv⟩ : ∃ r, Hid ((Ob.toG (v i)).val = r) := ⟨_, rfl⟩
      obtain ⟨h2, hh2⟩ : ∃ r, Hid (hdN m u (i + 1) = r) := ⟨_, rfl⟩
      obtain ⟨g2, hg2⟩ : ∃ r, Hid (hdN m v (i + 1) = r) := ⟨_, rfl⟩
      rw [hru.out] at c1
      rw [hrv.out] at c2
      rw [hru.out, hh2.out] at c3
      rw [hrv.out, hg2.out] at c4
      have hcase : (h = g ∧ ru = rv ∧ g2 = h2 ∧ Hid (clashAt m u v (i + 1) = cl)) ∨ ((∀ w, (Op.equalIn 10000 34 (.agg #[.int .u64 (h : Nat), .int .u64 (ru : Nat)]) (.agg #[.int .u64 (g : Nat), .int .u64 (rv : Nat)])).run Try.prog w = .ok false w) ∧ Hid (clashAt m u v (i + 1) = some i)) := by
        by_cases hs : h = g ∧ ru = rv
        · refine Or.inl ⟨hs.1, hs.2, by rw [← hh2.out, ← hg2.out, ← hdN_two, ← hdN_two, hI0.out.1, hI0.out.2, hru.out, hrv.out, hs.1, hs.2], ?_⟩
          show _ = _
          rw [← hI.out.1]
          exact clashAt_same ⟨by rw [hI0.out.1, hI0.out.2, hs.1], Fin.ext (by rw [hru.out, hrv.out, hs.2])⟩
        · refine Or.inr ⟨fun w => ?_, ?_⟩
          · rw [equal_Par]
            have e : (((h : Int) == (g : Int)) && ((ru : Int) == (rv : Int))) = false := by
              rw [Bool.and_eq_false_iff]
              by_cases h1 : h = g
              · exact Or.inr (beq_eq_false_iff_ne.mpr fun e => hs ⟨h1, by omega⟩)
              · exact Or.inl (beq_eq_false_iff_ne.mpr fun e => h1 (by omega))
            rw [e]
          · exact clashAt_other fun ⟨h1, h3⟩ => hs ⟨by rw [← hI0.out.1, ← hI0.out.2, h1], by rw [← hru.out, ← hrv.out, h3]⟩
      have hru2 : Hid (laN u (some i) = ru) := hru
      have hrv2 : Hid (laN v (some i) = rv) := hrv
      generalize u i = x at *
      generalize v i = y at *
      clear lba lbb wba wbb
      go_wp2
      go_cut [13, 14] (fun s13 s14 wx => ∃ p q : Nat, s13 = .pointer (some ⟨p, 0, none⟩) ∧ s14 = .pointer (some ⟨q, 0, none⟩) ∧ p ≠ q ∧ w.heap.size + 3 < p ∧ w.heap.size + 3 < q ∧ Two wx p (.int .u64 h) (.int .u64 ru) ∧ Two wx q (.int .u64 g) (.int .u64 rv) ∧ Two wx w.heap.size (.int .u64 0) (.int .u64 0) ∧ Two wx (w.heap.size + 1) (.int .u64 0) (.int .u64 0) ∧ Two wx (w.heap.size + 1 + 1) (.int .u64 A) (.int .u64 B) ∧ Two wx (w.heap.size + 1 + 1 + 1) (.int .u64 C) (.int .u64 D) ∧ Below w.heap.size w wx)
      case first =>
        have l3 := t3.lt
        go_region_held3 (fun w' => w'.cell? ⟨ba, oa + i, none⟩ = some (.int .u64 (x : Nat)) ∧ w'.cell? ⟨bb, ob + i, none⟩ = some (.int .u64 (y : Nat))) (go_keep) ((first | (go_at_call 16; first | (with_reducible refine (c1 _).mono ?_; rintro e w' ⟨rfl, rfl⟩) | (with_reducible refine (c2 _).mono ?_; rintro e w' ⟨rfl, rfl⟩))))
        all_goals
          go_wp2
          go_meet
          case rel => exact ⟨_, _, rfl, rfl, by omega, by omega, by omega, by (repeat' (first | (with_reducible first | assumption | exact Two.own (by with_reducible assumption) | refine Two.set ?_ _ _ | refine Own2.set ?_ _ _ | refine Two.drew ?_ | refine Two.drewN ?_ _ | refine Own2.drew ?_ | refine Own2.drewN ?_ _ | (refine Two.new ?_; simp only [szs]; done) | (refine Own2.new ?_; simp only [szs]; done) | refine Two.alloc ?_ _ | refine Own2.alloc ?_ _ | refine Two.far ?_ ?_ _ _ | refine Own2.far ?_ ?_ _ _ | refine Two.via (by with_reducible assumption) ?_ ?_ | refine Own2.via (by with_reducible assumption) ?_ ?_) | omega | (simp only [szs]; omega))), by (repeat' (first | (with_reducible first | assumption | exact Two.own (by with_reducible assumption) | refine Two.set ?_ _ _ | refine Own2.set ?_ _ _ | refine Two.drew ?_ | refine Two.drewN ?_ _ | refine Own2.drew ?_ | refine Own2.drewN ?_ _ | (refine Two.new ?_; simp only [szs]; done) | (refine Own2.new ?_; simp only [szs]; done) | refine Two.alloc ?_ _ | refine Own2.alloc ?_ _ | refine Two.far ?_ ?_ _ _ | refine Own2.far ?_ ?_ _ _ | refine Two.via (by with_reducible assumption) ?_ ?_ | refine Own2.via (by with_reducible assumption) ?_ ?_) | omega | (simp only [szs]; omega))), by (repeat' (first | (with_reducible first | assumption | exact Two.own (by with_reducible assumption) | refine Two.set ?_ _ _ | refine Own2.set ?_ _ _ | refine Two.drew ?_ | refine Two.drewN ?_ _ | refine Own2.drew ?_ | refine Own2.drewN ?_ _ | (refine Two.new ?_; simp only [szs]; done) | (refine Own2.new ?_; simp only [szs]; done) | refine Two.alloc ?_ _ | refine Own2.alloc ?_ _ | refine Two.far ?_ ?_ _ _ | refine Own2.far ?_ ?_ _ _ | refine Two.via (by with_reducible assumption) ?_ ?_ | refine Own2.via (by with_reducible assumption) ?_ ?_) | omega | (simp only [szs]; omega))), by (repeat' (first | (with_reducible first | assumption | exact Two.own (by with_reducible assumption) | refine Two.set ?_ _ _ | refine Own2.set ?_ _ _ | refine Two.drew ?_ | refine Two.drewN ?_ _ | refine Own2.drew ?_ | refine Own2.drewN ?_ _ | (refine Two.new ?_; simp only [szs]; done) | (refine Own2.new ?_; simp only [szs]; done) | refine Two.alloc ?_ _ | refine Own2.alloc ?_ _ | refine Two.far ?_ ?_ _ _ | refine Own2.far ?_ ?_ _ _ | refine Two.via (by with_reducible assumption) ?_ ?_ | refine Own2.via (by with_reducible assumption) ?_ ?_) | omega | (simp only [szs]; omega))), by (repeat' (first | (with_reducible first | assumption | exact Two.own (by with_reducible assumption) | refine Two.set ?_ _ _ | refine Own2.set ?_ _ _ | refine Two.drew ?_ | refine Two.drewN ?_ _ | refine Own2.drew ?_ | refine Own2.drewN ?_ _ | (refine Two.new ?_; simp only [szs]; done) | (refine Own2.new ?_; simp only [szs]; done) | refine Two.alloc ?_ _ | refine Own2.alloc ?_ _ | refine Two.far ?_ ?_ _ _ | refine Own2.far ?_ ?_ _ _ | refine Two.via (by with_reducible assumption) ?_ ?_ | refine Own2.via (by with_reducible assumption) ?_ ?_) | omega | (simp only [szs]; omega))), by (repeat' (first | (with_reducible first | assumption | exact Two.own (by with_reducible assumption) | refine Two.set ?_ _ _ | refine Own2.set ?_ _ _ | refine Two.drew ?_ | refine Two.drewN ?_ _ | refine Own2.drew ?_ | refine Own2.drewN ?_ _ | (refine Two.new ?_; simp only [szs]; done) | (refine Own2.new ?_; simp only [szs]; done) | refine Two.alloc ?_ _ | refine Own2.alloc ?_ _ | refine Two.far ?_ ?_ _ _ | refine Own2.far ?_ ?_ _ _ | refine Two.via (by with_reducible assumption) ?_ ?_ | refine Own2.via (by with_reducible assumption) ?_ ?_) | omega | (simp only [szs]; omega))), by (repeat' (first | (with_reducible first | exact Below.refl _ _ | assumption | refine Below.alloc ?_ ?_ _ | refine Below.drew ?_ | refine below_drewN ?_ _ | refine Below.setCell ?_ ?_ _ | refine below_via (by with_reducible assumption) ?_ ?_) | omega | (simp only [szs]; omega) | (simp only [szs] at *; omega)))⟩
      case rest =>
        obtain ⟨p, q, rfl, rfl, hne, lp, lq, tp, tq, s0, s1, s2, s3, hB1⟩ := hcut
        clear t0 t1 t2 t3 hB zB d1 d2 c1 c2
        rcases hcase with ⟨rfl, rfl, rfl, hcl⟩ | ⟨hneq, hcl⟩
        · have heq : ∀ w, (Op.equalIn 10000 34 (.agg #[.int .u64 (h : Nat), .int .u64 (ru : Nat)]) (.agg #[.int .u64 (h : Nat), .int .u64 (ru : Nat)])).run Try.prog w = .ok true w := fun w => by rw [equal_Par]; simp
          have hI' : Hid (clashAt m u v (i + 1) = cl ∧ hdN m u (i + 1) = g2 ∧ hdN m v (i + 1) = g2 ∧ laH m u cl = A ∧ laN u cl = B ∧ laH m v cl = C ∧ laN v cl = D) := ⟨hcl.out, hh2.out, hg2.out, hI.out.2.2.2⟩
          have ⟨e1, e2, e3, e4, e5⟩ := tp
          have ⟨f1, f2, f3, f4, f5⟩ := tq
          clear hI0 hru hrv hru2 hrv2 hh2 hg2 hcl hI
          go_wp2
          have l1 := s0.lt
          have l2 := s3.lt
          go_region_held3 (fun w' => w'.cell? ⟨p, 0, none⟩ = some (.int .u64 (h : Nat)) ∧ w'.cell? ⟨p, 1, none⟩ = some (.int .u64 (ru : Nat)) ∧ w'.cell? ⟨q, 0, none⟩ = some (.int .u64 (h : Nat)) ∧ w'.cell? ⟨q, 1, none⟩ = some (.int .u64 (ru : Nat))) (go_keep)
            ((first | (go_at_call 17; first | (with_reducible refine (c3 _).mono ?_; rintro e w_c3 ⟨rfl, b_c3⟩; have z_c3 := b_c3.size; (try simp only [szs] at z_c3); (try (have q_c3_0 := own2 b_c3 (w.heap.size) (by first | omega | (simp only [szs]; omega)))); (try (have q_c3_1 := own2 b_c3 (w.heap.size + 1) (by first | omega | (simp only [szs]; omega)))); (try (have q_c3_2 := own2 b_c3 (w.heap.size + 1 + 1) (by first | omega | (simp only [szs]; omega)))); (try (have q_c3_3 := own2 b_c3 (w.heap.size + 1 + 1 + 1) (by first | omega | (simp only [szs]; omega)))); (try (have q_c3_4 := own2 b_c3 (p) (by first | omega | (simp only [szs]; omega)))); (try (have q_c3_5 := own2 b_c3 (q) (by first | omega | (simp only [szs]; omega))))) | (with_reducible refine (c4 _).mono ?_; rintro e w_c4 ⟨rfl, b_c4⟩; have z_c4 := b_c4.size; (try simp only [szs] at z_c4); (try (have q_c4_0 := own2 b_c4 (w.heap.size) (by first | omega | (simp only [szs]; omega)))); (try (have q_c4_1 := own2 b_c4 (w.heap.size + 1) (by first | omega | (simp only [szs]; omega)))); (try (have q_c4_2 := own2 b_c4 (w.heap.size + 1 + 1) (by first | omega | (simp only [szs]; omega)))); (try (have q_c4_3 := own2 b_c4 (w.heap.size + 1 + 1 + 1) (by first | omega | (simp only [szs]; omega)))); (try (have q_c4_4 := own2 b_c4 (p) (by first | omega | (simp only [szs]; omega)))); (try (have q_c4_5 := own2 b_c4 (q) (by first | omega | (simp only [szs]; omega))))))))
          all_goals
            go_wp2
            go_roundw
            case rel => exact ⟨i + 1, g2, g2, A, B, C, D, cl, by omega, by first | rfl | trivial, by first | rfl | trivial, by first | rfl | trivial, by go_num, by (repeat' (first | (with_reducible first | assumption | exact Two.own (by with_reducible assumption) | refine Two.set ?_ _ _ | refine Own2.set ?_ _ _ | refine Two.drew ?_ | refine Two.drewN ?_ _ | refine Own2.drew ?_ | refine Own2.drewN ?_ _ | (refine Two.new ?_; simp only [szs]; done) | (refine Own2.new ?_; simp only [szs]; done) | refine Two.alloc ?_ _ | refine Own2.alloc ?_ _ | refine Two.far ?_ ?_ _ _ | refine Own2.far ?_ ?_ _ _ | refine Two.via (by with_reducible assumption) ?_ ?_ | refine Own2.via (by with_reducible assumption) ?_ ?_) | omega | (simp only [szs]; omega))), by (repeat' (first | (with_reducible first | assumption | exact Two.own (by with_reducible assumption) | refine Two.set ?_ _ _ | refine Own2.set ?_ _ _ | refine Two.drew ?_ | refine Two.drewN ?_ _ | refine Own2.drew ?_ | refine Own2.drewN ?_ _ | (refine Two.new ?_; simp only [szs]; done) | (refine Own2.new ?_; simp only [szs]; done) | refine Two.alloc ?_ _ | refine Own2.alloc ?_ _ | refine Two.far ?_ ?_ _ _ | refine Own2.far ?_ ?_ _ _ | refine Two.via (by with_reducible assumption) ?_ ?_ | refine Own2.via (by with_reducible assumption) ?_ ?_) | omega | (simp only [szs]; omega))), by (repeat' (first | (with_reducible first | assumption | exact Two.own (by with_reducible assumption) | refine Two.set ?_ _ _ | refine Own2.set ?_ _ _ | refine Two.drew ?_ | refine Two.drewN ?_ _ | refine Own2.drew ?_ | refine Own2.drewN ?_ _ | (refine Two.new ?_; simp only [szs]; done) | (refine Own2.new ?_; simp only [szs]; done) | refine Two.alloc ?_ _ | refine Own2.alloc ?_ _ | refine Two.far ?_ ?_ _ _ | refine Own2.far ?_ ?_ _ _ | refine Two.via (by with_reducible assumption) ?_ ?_ | refine Own2.via (by with_reducible assumption) ?_ ?_) | omega | (simp only [szs]; omega))), by (repeat' (first | (with_reducible first | assumption | exact Two.own (by with_reducible assumption) | refine Two.set ?_ _ _ | refine Own2.set ?_ _ _ | refine Two.drew ?_ | refine Two.drewN ?_ _ | refine Own2.drew ?_ | refine Own2.drewN ?_ _ | (refine Two.new ?_; simp only [szs]; done) | (refine Own2.new ?_; simp only [szs]; done) | refine Two.alloc ?_ _ | refine Own2.alloc ?_ _ | refine Two.far ?_ ?_ _ _ | refine Own2.far ?_ ?_ _ _ | refine Two.via (by with_reducible assumption) ?_ ?_ | refine Own2.via (by with_reducible assumption) ?_ ?_) | omega | (simp only [szs]; omega))), by (repeat' (first | (with_reducible first | exact Below.refl _ _ | assumption | refine Below.alloc ?_ ?_ _ | refine Below.drew ?_ | refine below_drewN ?_ _ | refine Below.setCell ?_ ?_ _ | refine below_via (by with_reducible assumption) ?_ ?_) | omega | (simp only [szs]; omega) | (simp only [szs] at *; omega))), hI'⟩
            case measure => first | (simp [intOf]; done) | (simp [intOf]; omega)
        · have hI' : Hid (clashAt m u v (i + 1) = some i ∧ hdN m u (i + 1) = h2 ∧ hdN m v (i + 1) = g2 ∧ laH m u (some i) = h ∧ laN u (some i) = ru ∧ laH m v (some i) = g ∧ laN v (some i) = rv) := ⟨hcl.out, hh2.out, hg2.out, hI0.out.1, hru2.out, hI0.out.2, hrv2.out⟩
          have ⟨e1, e2, e3, e4, e5⟩ := tp
          have ⟨f1, f2, f3, f4, f5⟩ := tq
          clear hI0 hru hrv hru2 hrv2 hh2 hg2 hcl hI
          have l1 := s0.lt
          have l2 := s3.lt
          have ⟨k1, k2, k3, k4, k5⟩ := s2
          have ⟨n1, n2, n3, n4, n5⟩ := s3
          have x1 : ¬ (p = w.heap.size + 1 + 1) := by omega
          have x2 : ¬ (q = w.heap.size + 1 + 1) := by omega
          have x3 : ¬ (p = w.heap.size + 1 + 1 + 1) := by omega
          have x4 : ¬ (q = w.heap.size + 1 + 1 + 1) := by omega
          have y1 : ¬ (w.heap.size + 1 + 1 = p) := by omega
          have y2 : ¬ (w.heap.size + 1 + 1 = q) := by omega
          have y3 : ¬ (w.heap.size + 1 + 1 + 1 = p) := by omega
          have y4 : ¬ (w.heap.size + 1 + 1 + 1 = q) := by omega
          go_wp2
          go_region_held3 (fun w' => w'.cell? ⟨p, 0, none⟩ = some (.int .u64 (h : Nat)) ∧ w'.cell? ⟨p, 1, none⟩ = some (.int .u64 (ru : Nat)) ∧ w'.cell? ⟨q, 0, none⟩ = some (.int .u64 (g : Nat)) ∧ w'.cell? ⟨q, 1, none⟩ = some (.int .u64 (rv : Nat))) (go_keep) (fail)
          go_wp2
          have hB2 : Below w.heap.size w ((((wc.setCell ⟨w.heap.size + 1 + 1, 0, none⟩ (.int .u64 h)).setCell ⟨w.heap.size + 1 + 1, 1, none⟩ (.int .u64 ru)).setCell ⟨w.heap.size + 1 + 1 + 1, 0, none⟩ (.int .u64 g)).setCell ⟨w.heap.size + 1 + 1 + 1, 1, none⟩ (.int .u64 rv)) := by (repeat' (first | (with_reducible first | exact Below.refl _ _ | assumption | refine Below.alloc ?_ ?_ _ | refine Below.drew ?_ | refine below_drewN ?_ _ | refine Below.setCell ?_ ?_ _ | refine below_via (by with_reducible assumption) ?_ ?_) | omega | (simp only [szs]; omega) | (simp only [szs] at *; omega)))
          have r0 : Two ((((wc.setCell ⟨w.heap.size + 1 + 1, 0, none⟩ (.int .u64 h)).setCell ⟨w.heap.size + 1 + 1, 1, none⟩ (.int .u64 ru)).setCell ⟨w.heap.size + 1 + 1 + 1, 0, none⟩ (.int .u64 g)).setCell ⟨w.heap.size + 1 + 1 + 1, 1, none⟩ (.int .u64 rv)) w.heap.size (.int .u64 0) (.int .u64 0) := by (repeat' (first | (with_reducible first | assumption | exact Two.own (by with_reducible assumption) | refine Two.set ?_ _ _ | refine Own2.set ?_ _ _ | refine Two.drew ?_ | refine Two.drewN ?_ _ | refine Own2.drew ?_ | refine Own2.drewN ?_ _ | (refine Two.new ?_; simp only [szs]; done) | (refine Own2.new ?_; simp only [szs]; done) | refine Two.alloc ?_ _ | refine Own2.alloc ?_ _ | refine Two.far ?_ ?_ _ _ | refine Own2.far ?_ ?_ _ _ | refine Two.via (by with_reducible assumption) ?_ ?_ | refine Own2.via (by with_reducible assumption) ?_ ?_) | omega | (simp only [szs]; omega)))
          have r1 : Two ((((wc.setCell ⟨w.heap.size + 1 + 1, 0, none⟩ (.int .u64 h)).setCell ⟨w.heap.size + 1 + 1, 1, none⟩ (.int .u64 ru)).setCell ⟨w.heap.size + 1 + 1 + 1, 0, none⟩ (.int .u64 g)).setCell ⟨w.heap.size + 1 + 1 + 1, 1, none⟩ (.int .u64 rv)) (w.heap.size + 1) (.int .u64 0) (.int .u64 0) := by (repeat' (first | (with_reducible first | assumption | exact Two.own (by with_reducible assumption) | refine Two.set ?_ _ _ | refine Own2.set ?_ _ _ | refine Two.drew ?_ | refine Two.drewN ?_ _ | refine Own2.drew ?_ | refine Own2.drewN ?_ _ | (refine Two.new ?_; simp only [szs]; done) | (refine Own2.new ?_; simp only [szs]; done) | refine Two.alloc ?_ _ | refine Own2.alloc ?_ _ | refine Two.far ?_ ?_ _ _ | refine Own2.far ?_ ?_ _ _ | refine Two.via (by with_reducible assumption) ?_ ?_ | refine Own2.via (by with_reducible assumption) ?_ ?_) | omega | (simp only [szs]; omega)))
          have r2 : Two ((((wc.setCell ⟨w.heap.size + 1 + 1, 0, none⟩ (.int .u64 h)).setCell ⟨w.heap.size + 1 + 1, 1, none⟩ (.int .u64 ru)).setCell ⟨w.heap.size + 1 + 1 + 1, 0, none⟩ (.int .u64 g)).setCell ⟨w.heap.size + 1 + 1 + 1, 1, none⟩ (.int .u64 rv)) (w.heap.size + 1 + 1) (.int .u64 h) (.int .u64 ru) := by (repeat' (first | (with_reducible first | assumption | exact Two.own (by with_reducible assumption) | refine Two.set ?_ _ _ | refine Own2.set ?_ _ _ | refine Two.drew ?_ | refine Two.drewN ?_ _ | refine Own2.drew ?_ | refine Own2.drewN ?_ _ | (refine Two.new ?_; simp only [szs]; done) | (refine Own2.new ?_; simp only [szs]; done) | refine Two.alloc ?_ _ | refine Own2.alloc ?_ _ | refine Two.far ?_ ?_ _ _ | refine Own2.far ?_ ?_ _ _ | refine Two.via (by with_reducible assumption) ?_ ?_ | refine Own2.via (by with_reducible assumption) ?_ ?_) | omega | (simp only [szs]; omega)))
          have r3 : Two ((((wc.setCell ⟨w.heap.size + 1 + 1, 0, none⟩ (.int .u64 h)).setCell ⟨w.heap.size + 1 + 1, 1, none⟩ (.int .u64 ru)).setCell ⟨w.heap.size + 1 + 1 + 1, 0, none⟩ (.int .u64 g)).setCell ⟨w.heap.size + 1 + 1 + 1, 1, none⟩ (.int .u64 rv)) (w.heap.size + 1 + 1 + 1) (.int .u64 g) (.int .u64 rv) := by (repeat' (first | (with_reducible first | assumption | exact Two.own (by with_reducible assumption) | refine Two.set ?_ _ _ | refine Own2.set ?_ _ _ | refine Two.drew ?_ | refine Two.drewN ?_ _ | refine Own2.drew ?_ | refine Own2.drewN ?_ _ | (refine Two.new ?_; simp only [szs]; done) | (refine Own2.new ?_; simp only [szs]; done) | refine Two.alloc ?_ _ | refine Own2.alloc ?_ _ | refine Two.far ?_ ?_ _ _ | refine Own2.far ?_ ?_ _ _ | refine Two.via (by with_reducible assumption) ?_ ?_ | refine Own2.via (by with_reducible assumption) ?_ ?_) | omega | (simp only [szs]; omega)))
          have rp : Two ((((wc.setCell ⟨w.heap.size + 1 + 1, 0, none⟩ (.int .u64 h)).setCell ⟨w.heap.size + 1 + 1, 1, none⟩ (.int .u64 ru)).setCell ⟨w.heap.size + 1 + 1 + 1, 0, none⟩ (.int .u64 g)).setCell ⟨w.heap.size + 1 + 1 + 1, 1, none⟩ (.int .u64 rv)) p (.int .u64 h) (.int .u64 ru) := by (repeat' (first | (with_reducible first | assumption | exact Two.own (by with_reducible assumption) | refine Two.set ?_ _ _ | refine Own2.set ?_ _ _ | refine Two.drew ?_ | refine Two.drewN ?_ _ | refine Own2.drew ?_ | refine Own2.drewN ?_ _ | (refine Two.new ?_; simp only [szs]; done) | (refine Own2.new ?_; simp only [szs]; done) | refine Two.alloc ?_ _ | refine Own2.alloc ?_ _ | refine Two.far ?_ ?_ _ _ | refine Own2.far ?_ ?_ _ _ | refine Two.via (by with_reducible assumption) ?_ ?_ | refine Own2.via (by with_reducible assumption) ?_ ?_) | omega | (simp only [szs]; omega)))
          have rq : Two ((((wc.setCell ⟨w.heap.size + 1 + 1, 0, none⟩ (.int .u64 h)).setCell ⟨w.heap.size + 1 + 1, 1, none⟩ (.int .u64 ru)).setCell ⟨w.heap.size + 1 + 1 + 1, 0, none⟩ (.int .u64 g)).setCell ⟨w.heap.size + 1 + 1 + 1, 1, none⟩ (.int .u64 rv)) q (.int .u64 g) (.int .u64 rv) := by (repeat' (first | (with_reducible first | assumption | exact Two.own (by with_reducible assumption) | refine Two.set ?_ _ _ | refine Own2.set ?_ _ _ | refine Two.drew ?_ | refine Two.drewN ?_ _ | refine Own2.drew ?_ | refine Own2.drewN ?_ _ | (refine Two.new ?_; simp only [szs]; done) | (refine Own2.new ?_; simp only [szs]; done) | refine Two.alloc ?_ _ | refine Own2.alloc ?_ _ | refine Two.far ?_ ?_ _ _ | refine Own2.far ?_ ?_ _ _ | refine Two.via (by with_reducible assumption) ?_ ?_ | refine Own2.via (by with_reducible assumption) ?_ ?_) | omega | (simp only [szs]; omega)))
          clear e1 e2 e3 e4 e5 f1 f2 f3 f4 f5 k1 k2 k3 k4 k5 n1 n2 n3 n4 n5 tp tq s0 s1 s2 s3 hB1 l1 l2
          generalize (((wc.setCell ⟨w.heap.size + 1 + 1, 0, none⟩ (.int .u64 h)).setCell ⟨w.heap.size + 1 + 1, 1, none⟩ (.int .u64 ru)).setCell ⟨w.heap.size + 1 + 1 + 1, 0, none⟩ (.int .u64 g)).setCell ⟨w.heap.size + 1 + 1 + 1, 1, none⟩ (.int .u64 rv) = W at *
          have ⟨e1, e2, e3, e4, e5⟩ := rp
          have ⟨f1, f2, f3, f4, f5⟩ := rq
          have l1 := r0.lt
          have l2 := r3.lt
          go_region_held3 (fun w' => w'.cell? ⟨p, 0, none⟩ = some (.int .u64 (h : Nat)) ∧ w'.cell? ⟨p, 1, none⟩ = some (.int .u64 (ru : Nat)) ∧ w'.cell? ⟨q, 0, none⟩ = some (.int .u64 (g : Nat)) ∧ w'.cell? ⟨q, 1, none⟩ = some (.int .u64 (rv : Nat))) (go_keep)
            ((first | (go_at_call 17; first | (with_reducible refine (c3 _).mono ?_; rintro e w_c3 ⟨rfl, b_c3⟩; have z_c3 := b_c3.size; (try simp only [szs] at z_c3); (try (have q_c3_0 := own2 b_c3 (w.heap.size) (by first | omega | (simp only [szs]; omega)))); (try (have q_c3_1 := own2 b_c3 (w.heap.size + 1) (by first | omega | (simp only [szs]; omega)))); (try (have q_c3_2 := own2 b_c3 (w.heap.size + 1 + 1) (by first | omega | (simp only [szs]; omega)))); (try (have q_c3_3 := own2 b_c3 (w.heap.size + 1 + 1 + 1) (by first | omega | (simp only [szs]; omega)))); (try (have q_c3_4 := own2 b_c3 (p) (by first | omega | (simp only [szs]; omega)))); (try (have q_c3_5 := own2 b_c3 (q) (by first | omega | (simp only [szs]; omega))))) | (with_reducible refine (c4 _).mono ?_; rintro e w_c4 ⟨rfl, b_c4⟩; have z_c4 := b_c4.size; (try simp only [szs] at z_c4); (try (have q_c4_0 := own2 b_c4 (w.heap.size) (by first | omega | (simp only [szs]; omega)))); (try (have q_c4_1 := own2 b_c4 (w.heap.size + 1) (by first | omega | (simp only [szs]; omega)))); (try (have q_c4_2 := own2 b_c4 (w.heap.size + 1 + 1) (by first | omega | (simp only [szs]; omega)))); (try (have q_c4_3 := own2 b_c4 (w.heap.size + 1 + 1 + 1) (by first | omega | (simp only [szs]; omega)))); (try (have q_c4_4 := own2 b_c4 (p) (by first | omega | (simp only [szs]; omega)))); (try (have q_c4_5 := own2 b_c4 (q) (by first | omega | (simp only [szs]; omega))))))))
          all_goals
            go_wp2
            go_roundw
            case rel => exact ⟨i + 1, h2, g2, h, ru, g, rv, some i, by omega, by first | rfl | trivial, by first | rfl | trivial, by first | rfl | trivial, by go_num, by (repeat' (first | (with_reducible first | assumption | exact Two.own (by with_reducible assumption) | refine Two.set ?_ _ _ | refine Own2.set ?_ _ _ | refine Two.drew ?_ | refine Two.drewN ?_ _ | refine Own2.drew ?_ | refine Own2.drewN ?_ _ | (refine Two.new ?_; simp only [szs]; done) | (refine Own2.new ?_; simp only [szs]; done) | refine Two.alloc ?_ _ | refine Own2.alloc ?_ _ | refine Two.far ?_ ?_ _ _ | refine Own2.far ?_ ?_ _ _ | refine Two.via (by with_reducible assumption) ?_ ?_ | refine Own2.via (by with_reducible assumption) ?_ ?_) | omega | (simp only [szs]; omega))), by (repeat' (first | (with_reducible first | assumption | exact Two.own (by with_reducible assumption) | refine Two.set ?_ _ _ | refine Own2.set ?_ _ _ | refine Two.drew ?_ | refine Two.drewN ?_ _ | refine Own2.drew ?_ | refine Own2.drewN ?_ _ | (refine Two.new ?_; simp only [szs]; done) | (refine Own2.new ?_; simp only [szs]; done) | refine Two.alloc ?_ _ | refine Own2.alloc ?_ _ | refine Two.far ?_ ?_ _ _ | refine Own2.far ?_ ?_ _ _ | refine Two.via (by with_reducible assumption) ?_ ?_ | refine Own2.via (by with_reducible assumption) ?_ ?_) | omega | (simp only [szs]; omega))), by (repeat' (first | (with_reducible first | assumption | exact Two.own (by with_reducible assumption) | refine Two.set ?_ _ _ | refine Own2.set ?_ _ _ | refine Two.drew ?_ | refine Two.drewN ?_ _ | refine Own2.drew ?_ | refine Own2.drewN ?_ _ | (refine Two.new ?_; simp only [szs]; done) | (refine Own2.new ?_; simp only [szs]; done) | refine Two.alloc ?_ _ | refine Own2.alloc ?_ _ | refine Two.far ?_ ?_ _ _ | refine Own2.far ?_ ?_ _ _ | refine Two.via (by with_reducible assumption) ?_ ?_ | refine Own2.via (by with_reducible assumption) ?_ ?_) | omega | (simp only [szs]; omega))), by (repeat' (first | (with_reducible first | assumption | exact Two.own (by with_reducible assumption) | refine Two.set ?_ _ _ | refine Own2.set ?_ _ _ | refine Two.drew ?_ | refine Two.drewN ?_ _ | refine Own2.drew ?_ | refine Own2.drewN ?_ _ | (refine Two.new ?_; simp only [szs]; done) | (refine Own2.new ?_; simp only [szs]; done) | refine Two.alloc ?_ _ | refine Own2.alloc ?_ _ | refine Two.far ?_ ?_ _ _ | refine Own2.far ?_ ?_ _ _ | refine Two.via (by with_reducible assumption) ?_ ?_ | refine Own2.via (by with_reducible assumption) ?_ ?_) | omega | (simp only [szs]; omega))), by (repeat' (first | (with_reducible first | exact Below.refl _ _ | assumption | refine Below.alloc ?_ ?_ _ | refine Below.drew ?_ | refine below_drewN ?_ _ | refine Below.setCell ?_ ?_ _ | refine below_via (by with_reducible assumption) ?_ ?_) | omega | (simp only [szs]; omega) | (simp only [szs] at *; omega))), hI'⟩
            case measure => first | (simp [intOf]; done) | (simp [intOf]; omega)
    · obtain rfl : i = m := by omega
      have hlt' : ¬ (i : Int) < (i : Int) := by omega
      obtain rfl : cl = CL := hI.out.1.symm.trans hCL.out
      obtain rfl : h = TA := hI.out.2.1.symm.trans hTA.out
      obtain rfl : g = TB := hI.out.2.2.1.symm.trans hTB.out
      obtain rfl : A = RA := hI.out.2.2.2.1.symm.trans hRA.out
      obtain rfl : B = RB := hI.out.2.2.2.2.1.symm.trans hRB.out
      obtain rfl : C = RC := hI.out.2.2.2.2.2.1.symm.trans hRC.out
      obtain rfl : D = RD := hI.out.2.2.2.2.2.2.symm.trans hRD.out
      have ⟨e1, e2, e3, e4, e5⟩ := t0
      have ⟨f1, f2, f3, f4, f5⟩ := t1
      have ⟨k1, k2, k3, k4, k5⟩ := t2
      have ⟨n1, n2, n3, n4, n5⟩ := t3
      clear hI hRA hRB hRC hRD hCL hTA hTB
      rcases hap : isAp cl with _ | _
      · obtain rfl : false = RE := by rw [← hRE.out, hap]; rfl
        clear hRE hap
        go_wp2
        refine wp_region_noPanic ?_
        refine region_lastly (S := (fun w' => w'.cell? ⟨w.heap.size + 1 + 1, 0, none⟩ = some (.int .u64 (A : Nat)) ∧ w'.cell? ⟨w.heap.size + 1 + 1, 1, none⟩ = some (.int .u64 (B : Nat)) ∧ w'.cell? ⟨w.heap.size + 1 + 1 + 1, 0, none⟩ = some (.int .u64 (C : Nat)) ∧ w'.cell? ⟨w.heap.size + 1 + 1 + 1, 1, none⟩ = some (.int .u64 (D : Nat)))) [9, 10] (by kernel_rfl) (by ((try dsimp only); ((refine cells_and (cells2 ?_) (cells2 ?_); (focus (repeat' (first | (with_reducible first | assumption | exact Two.own (by with_reducible assumption) | refine Two.set ?_ _ _ | refine Own2.set ?_ _ _ | refine Two.drew ?_ | refine Two.drewN ?_ _ | refine Own2.drew ?_ | refine Own2.drewN ?_ _ | (refine Two.new ?_; simp only [szs]; done) | (refine Own2.new ?_; simp only [szs]; done) | refine Two.alloc ?_ _ | refine Own2.alloc ?_ _ | refine Two.far ?_ ?_ _ _ | refine Own2.far ?_ ?_ _ _ | refine Two.via (by with_reducible assumption) ?_ ?_ | refine Own2.via (by with_reducible assumption) ?_ ?_) | omega | (simp only [szs]; omega)))); (focus (repeat' (first | (with_reducible first | assumption | exact Two.own (by with_reducible assumption) | refine Two.set ?_ _ _ | refine Own2.set ?_ _ _ | refine Two.drew ?_ | refine Two.drewN ?_ _ | refine Own2.drew ?_ | refine Own2.drewN ?_ _ | (refine Two.new ?_; simp only [szs]; done) | (refine Own2.new ?_; simp only [szs]; done) | refine Two.alloc ?_ _ | refine Own2.alloc ?_ _ | refine Two.far ?_ ?_ _ _ | refine Own2.far ?_ ?_ _ _ | refine Two.via (by with_reducible assumption) ?_ ?_ | refine Own2.via (by with_reducible assumption) ?_ ?_) | omega | (simp only [szs]; omega)))))))) (fun hHeld => ?_)
        refine anyZ_take (i := 0) (oi := ?oi_1) (v := ?v_1) ?hi_1 ?hz_1 ?hs_1 ?hf_1 ?hr_1 ?hQ_1 (Or.inl ⟨?hw_1, ?hy_1⟩) ?hS_1 ?hrest_1
        case hi_1 => (simp only [List.getElem?_toArray, List.getElem?_cons_succ, List.getElem?_cons_zero]; exact rfl)
        case hz_1 => kernel_rfl
        case hs_1 => kernel_rfl
        case hf_1 => kernel_rfl
        case hr_1 => kernel_rfl
        case hQ_1 => exact fun _ _ _ h => h
        case hw_1 => rfl
        case hS_1 => assumption
        case hy_1 => (intro w hSw; (try dsimp only at hSw); go_simp; try with_reducible rfl)
        try simp only [Act.put, List.setIfInBounds_toArray, List.set_cons_zero, List.set_cons_succ]
        refine anyZ_take (i := 1) (oi := ?oi_2) (v := ?v_2) ?hi_2 ?hz_2 ?hs_2 ?hf_2 ?hr_2 ?hQ_2 (Or.inl ⟨?hw_2, ?hy_2⟩) ?hS_2 ?hrest_2
        case hi_2 => (simp only [List.getElem?_toArray, List.getElem?_cons_succ, List.getElem?_cons_zero]; exact rfl)
        case hz_2 => kernel_rfl
        case hs_2 => kernel_rfl
        case hf_2 => kernel_rfl
        case hr_2 => kernel_rfl
        case hQ_2 => exact fun _ _ _ h => h
        case hw_2 => rfl
        case hS_2 => assumption
        case hy_2 => (intro w hSw; (try dsimp only at hSw); go_simp; try with_reducible rfl)
        try simp only [Act.put, List.setIfInBounds_toArray, List.set_cons_zero, List.set_cons_succ]
        refine anyZ_free (i := 2) (oi := ?oi_3) (v := ?v_3) ?hi_3 ?hs_3 ?hf_3 ?hr_3 ?hQ_3 (Or.inl ⟨?hw_3, ?hy_3⟩) ?hrest_3
        case hi_3 => (simp only [List.getElem?_toArray, List.getElem?_cons_succ, List.getElem?_cons_zero]; exact rfl)
        case hs_3 => kernel_rfl
        case hf_3 => kernel_rfl
        case hr_3 => kernel_rfl
        case hQ_3 => exact fun _ _ _ h => h
        case hw_3 => rfl
        case hy_3 => (intro w _; go_simp; try with_reducible rfl)
        try simp only [Act.put, List.setIfInBounds_toArray, List.set_cons_zero, List.set_cons_succ]
        refine anyZ_free (i := 3) (oi := ?oi_4) (v := ?v_4) ?hi_4 ?hs_4 ?hf_4 ?hr_4 ?hQ_4 (Or.inl ⟨?hw_4, ?hy_4⟩) ?hrest_4
        case hi_4 => (simp only [List.getElem?_toArray, List.getElem?_cons_succ, List.getElem?_cons_zero]; exact rfl)
        case hs_4 => kernel_rfl
        case hf_4 => kernel_rfl
        case hr_4 => kernel_rfl
        case hQ_4 => exact fun _ _ _ h => h
        case hw_4 => rfl
        case hy_4 => (intro w _; go_simp; try with_reducible rfl)
        try simp only [Act.put, List.setIfInBounds_toArray, List.set_cons_zero, List.set_cons_succ]
        refine anyZ_free (i := 4) (oi := ?oi_5) (v := undef) ?hi_5 ?hs_5 ?hf_5 ?hr_5 ?hQ_5 (Or.inr ⟨?hw_5, rfl⟩) ?hrest_5
        case hi_5 => (simp only [List.getElem?_toArray, List.getElem?_cons_succ, List.getElem?_cons_zero]; exact rfl)
        case hs_5 => kernel_rfl
        case hf_5 => kernel_rfl
        case hr_5 => kernel_rfl
        case hQ_5 => exact fun _ _ _ h => h
        case hw_5 => rfl
        try simp only [Act.put, List.setIfInBounds_toArray, List.set_cons_zero, List.set_cons_succ]
        refine anyZ_free (i := 5) (oi := ?oi_6) (v := undef) ?hi_6 ?hs_6 ?hf_6 ?hr_6 ?hQ_6 (Or.inr ⟨?hw_6, rfl⟩) ?hrest_6
        case hi_6 => (simp only [List.getElem?_toArray, List.getElem?_cons_succ, List.getElem?_cons_zero]; exact rfl)
        case hs_6 => kernel_rfl
        case hf_6 => kernel_rfl
        case hr_6 => kernel_rfl
        case hQ_6 => exact fun _ _ _ h => h
        case hw_6 => rfl
        try simp only [Act.put, List.setIfInBounds_toArray, List.set_cons_zero, List.set_cons_succ]
        refine anyZ_free (i := 6) (oi := ?oi_7) (v := undef) ?hi_7 ?hs_7 ?hf_7 ?hr_7 ?hQ_7 (Or.inr ⟨?hw_7, rfl⟩) ?hrest_7
        case hi_7 => (simp only [List.getElem?_toArray, List.getElem?_cons_succ, List.getElem?_cons_zero]; exact rfl)
        case hs_7 => kernel_rfl
        case hf_7 => kernel_rfl
        case hr_7 => kernel_rfl
        case hQ_7 => exact fun _ _ _ h => h
        case hw_7 => rfl
        try simp only [Act.put, List.setIfInBounds_toArray, List.set_cons_zero, List.set_cons_succ]
        refine anyZ_free (i := 7) (oi := ?oi_8) (v := ?v_8) ?hi_8 ?hs_8 ?hf_8 ?hr_8 ?hQ_8 (Or.inl ⟨?hw_8, ?hy_8⟩) ?hrest_8
        case hi_8 => (simp only [List.getElem?_toArray, List.getElem?_cons_succ, List.getElem?_cons_zero]; exact rfl)
        case hs_8 => kernel_rfl
        case hf_8 => kernel_rfl
        case hr_8 => kernel_rfl
        case hQ_8 => exact fun _ _ _ h => h
        case hw_8 => rfl
        case hy_8 => (intro w _; go_simp; try with_reducible rfl)
        try simp only [Act.put, List.setIfInBounds_toArray, List.set_cons_zero, List.set_cons_succ]
        refine anyZ_ready (rs := [8]) (by kernel_rfl) (by simp) ?_
        refine (AllZ.cons (o := ?o_9) ?ho_9 (fun K hK => ?st_9) AllZ.nil)
        case ho_9 => (simp only [List.getElem?_toArray, List.getElem?_cons_succ, List.getElem?_cons_zero]; exact rfl)
        case st_9 =>
          go_simp
          refine hK.out _ _ (by ((try dsimp only); ((refine cells_and (cells2 ?_) (cells2 ?_); (focus (repeat' (first | (with_reducible first | assumption | exact Two.own (by with_reducible assumption) | refine Two.set ?_ _ _ | refine Own2.set ?_ _ _ | refine Two.drew ?_ | refine Two.drewN ?_ _ | refine Own2.drew ?_ | refine Own2.drewN ?_ _ | (refine Two.new ?_; simp only [szs]; done) | (refine Own2.new ?_; simp only [szs]; done) | refine Two.alloc ?_ _ | refine Own2.alloc ?_ _ | refine Two.far ?_ ?_ _ _ | refine Own2.far ?_ ?_ _ _ | refine Two.via (by with_reducible assumption) ?_ ?_ | refine Own2.via (by with_reducible assumption) ?_ ?_) | omega | (simp only [szs]; omega)))); (focus (repeat' (first | (with_reducible first | assumption | exact Two.own (by with_reducible assumption) | refine Two.set ?_ _ _ | refine Own2.set ?_ _ _ | refine Two.drew ?_ | refine Two.drewN ?_ _ | refine Own2.drew ?_ | refine Own2.drewN ?_ _ | (refine Two.new ?_; simp only [szs]; done) | (refine Own2.new ?_; simp only [szs]; done) | refine Two.alloc ?_ _ | refine Own2.alloc ?_ _ | refine Two.far ?_ ?_ _ _ | refine Own2.far ?_ ?_ _ _ | refine Two.via (by with_reducible assumption) ?_ ?_ | refine Own2.via (by with_reducible assumption) ?_ ?_) | omega | (simp only [szs]; omega)))))))) (fun hHeld => ?_)
          clear hK K
          try simp only [Act.put, List.setIfInBounds_toArray, List.set_cons_zero, List.set_cons_succ]
          refine anyZ_ready (rs := [9]) (by kernel_rfl) (by simp) ?_
          refine (AllZ.last (o := ?o_10) ?ho_10 (by rfl) (fun K hK => ?st_10) AllZ.nil)
          case ho_10 => (simp only [List.getElem?_toArray, List.getElem?_cons_succ, List.getElem?_cons_zero]; exact rfl)
          case st_10 =>
            go_simp
            refine hK.out _ _ ?_
            clear hK K
            try simp only [Act.put, List.setIfInBounds_toArray, List.set_cons_zero, List.set_cons_succ]
            refine anyZ_ready (rs := [10]) (by kernel_rfl) (by simp) ?_
            refine (AllZ.last (o := ?o_11) ?ho_11 (by rfl) (fun K hK => ?st_11) AllZ.nil)
            case ho_11 => (simp only [List.getElem?_toArray, List.getElem?_cons_succ, List.getElem?_cons_zero]; exact rfl)
            case st_11 =>
              go_simp
              refine hK.out _ _ ?_
              clear hK K
              try simp only [Act.put, List.setIfInBounds_toArray, List.set_cons_zero, List.set_cons_succ]
              refine anyZ_done (by kernel_rfl) ?_ _
              refine NoPanic.normal ?_
              go_wp2
              have hB2 : Below w.heap.size w (((((wr.setCell ⟨w.heap.size, 0, none⟩ (.int .u64 A)).setCell ⟨w.heap.size, 1, none⟩ (.int .u64 B)).setCell ⟨w.heap.size + 1, 0, none⟩ (.int .u64 C)).setCell ⟨w.heap.size + 1, 1, none⟩ (.int .u64 D)).drew) := by (repeat' (first | (with_reducible first | exact Below.refl _ _ | assumption | refine Below.alloc ?_ ?_ _ | refine Below.drew ?_ | refine below_drewN ?_ _ | refine Below.setCell ?_ ?_ _ | refine below_via (by with_reducible assumption) ?_ ?_) | omega | (simp only [szs]; omega) | (simp only [szs] at *; omega)))
              have r0 : Two (((((wr.setCell ⟨w.heap.size, 0, none⟩ (.int .u64 A)).setCell ⟨w.heap.size, 1, none⟩ (.int .u64 B)).setCell ⟨w.heap.size + 1, 0, none⟩ (.int .u64 C)).setCell ⟨w.heap.size + 1, 1, none⟩ (.int .u64 D)).drew) w.heap.size (.int .u64 A) (.int .u64 B) := by (repeat' (first | (with_reducible first | assumption | exact Two.own (by with_reducible assumption) | refine Two.set ?_ _ _ | refine Own2.set ?_ _ _ | refine Two.drew ?_ | refine Two.drewN ?_ _ | refine Own2.drew ?_ | refine Own2.drewN ?_ _ | (refine Two.new ?_; simp only [szs]; done) | (refine Own2.new ?_; simp only [szs]; done) | refine Two.alloc ?_ _ | refine Own2.alloc ?_ _ | refine Two.far ?_ ?_ _ _ | refine Own2.far ?_ ?_ _ _ | refine Two.via (by with_reducible assumption) ?_ ?_ | refine Own2.via (by with_reducible assumption) ?_ ?_) | omega | (simp only [szs]; omega)))
              have r1 : Two (((((wr.setCell ⟨w.heap.size, 0, none⟩ (.int .u64 A)).setCell ⟨w.heap.size, 1, none⟩ (.int .u64 B)).setCell ⟨w.heap.size + 1, 0, none⟩ (.int .u64 C)).setCell ⟨w.heap.size + 1, 1, none⟩ (.int .u64 D)).drew) (w.heap.size + 1) (.int .u64 C) (.int .u64 D) := by (repeat' (first | (with_reducible first | assumption | exact Two.own (by with_reducible assumption) | refine Two.set ?_ _ _ | refine Own2.set ?_ _ _ | refine Two.drew ?_ | refine Two.drewN ?_ _ | refine Own2.drew ?_ | refine Own2.drewN ?_ _ | (refine Two.new ?_; simp only [szs]; done) | (refine Own2.new ?_; simp only [szs]; done) | refine Two.alloc ?_ _ | refine Own2.alloc ?_ _ | refine Two.far ?_ ?_ _ _ | refine Own2.far ?_ ?_ _ _ | refine Two.via (by with_reducible assumption) ?_ ?_ | refine Own2.via (by with_reducible assumption) ?_ ?_) | omega | (simp only [szs]; omega)))
              generalize ((((wr.setCell ⟨w.heap.size, 0, none⟩ (.int .u64 A)).setCell ⟨w.heap.size, 1, none⟩ (.int .u64 B)).setCell ⟨w.heap.size + 1, 0, none⟩ (.int .u64 C)).setCell ⟨w.heap.size + 1, 1, none⟩ (.int .u64 D)).drew = W at *
              clear e1 e2 e3 e4 e5 f1 f2 f3 f4 f5 k1 k2 k3 k4 k5 n1 n2 n3 n4 n5
              have ⟨e1, e2, e3, e4, e5⟩ := r0
              have ⟨f1, f2, f3, f4, f5⟩ := r1
              exact bodyPost_ret (v := .tuple #[.agg #[.int .u64 A, .int .u64 B], .agg #[.int .u64 C, .int .u64 D], .bool false]) (by simp [results, Try.results11, go_sem, *]) rfl ⟨rfl, hB2⟩
      · have heq : ((h : Int) == (g : Int)) = RE := by
          rw [← hRE.out, hap, Bool.true_and]
          by_cases e : h = g
          · subst e; simp
          · rw [decide_eq_false e, beq_eq_false_iff_ne]; omega
        clear hRE hap
        go_wp2
        refine wp_region_noPanic ?_
        refine region_lastly (S := (fun w' => w'.cell? ⟨w.heap.size + 1 + 1, 0, none⟩ = some (.int .u64 (A : Nat)) ∧ w'.cell? ⟨w.heap.size + 1 + 1, 1, none⟩ = some (.int .u64 (B : Nat)) ∧ w'.cell? ⟨w.heap.size + 1 + 1 + 1, 0, none⟩ = some (.int .u64 (C : Nat)) ∧ w'.cell? ⟨w.heap.size + 1 + 1 + 1, 1, none⟩ = some (.int .u64 (D : Nat)))) [9, 10] (by kernel_rfl) (by ((try dsimp only); ((refine cells_and (cells2 ?_) (cells2 ?_); (focus (repeat' (first | (with_reducible first | assumption | exact Two.own (by with_reducible assumption) | refine Two.set ?_ _ _ | refine Own2.set ?_ _ _ | refine Two.drew ?_ | refine Two.drewN ?_ _ | refine Own2.drew ?_ | refine Own2.drewN ?_ _ | (refine Two.new ?_; simp only [szs]; done) | (refine Own2.new ?_; simp only [szs]; done) | refine Two.alloc ?_ _ | refine Own2.alloc ?_ _ | refine Two.far ?_ ?_ _ _ | refine Own2.far ?_ ?_ _ _ | refine Two.via (by with_reducible assumption) ?_ ?_ | refine Own2.via (by with_reducible assumption) ?_ ?_) | omega | (simp only [szs]; omega)))); (focus (repeat' (first | (with_reducible first | assumption | exact Two.own (by with_reducible assumption) | refine Two.set ?_ _ _ | refine Own2.set ?_ _ _ | refine Two.drew ?_ | refine Two.drewN ?_ _ | refine Own2.drew ?_ | refine Own2.drewN ?_ _ | (refine Two.new ?_; simp only [szs]; done) | (refine Own2.new ?_; simp only [szs]; done) | refine Two.alloc ?_ _ | refine Own2.alloc ?_ _ | refine Two.far ?_ ?_ _ _ | refine Own2.far ?_ ?_ _ _ | refine Two.via (by with_reducible assumption) ?_ ?_ | refine Own2.via (by with_reducible assumption) ?_ ?_) | omega | (simp only [szs]; omega)))))))) (fun hHeld => ?_)
        refine anyZ_take (i := 0) (oi := ?oi_12) (v := ?v_12) ?hi_12 ?hz_12 ?hs_12 ?hf_12 ?hr_12 ?hQ_12 (Or.inl ⟨?hw_12, ?hy_12⟩) ?hS_12 ?hrest_12
        case hi_12 => (simp only [List.getElem?_toArray, List.getElem?_cons_succ, List.getElem?_cons_zero]; exact rfl)
        case hz_12 => kernel_rfl
        case hs_12 => kernel_rfl
        case hf_12 => kernel_rfl
        case hr_12 => kernel_rfl
        case hQ_12 => exact fun _ _ _ h => h
        case hw_12 => rfl
        case hS_12 => assumption
        case hy_12 => (intro w hSw; (try dsimp only at hSw); go_simp; try with_reducible rfl)
        try simp only [Act.put, List.setIfInBounds_toArray, List.set_cons_zero, List.set_cons_succ]
        refine anyZ_take (i := 1) (oi := ?oi_13) (v := ?v_13) ?hi_13 ?hz_13 ?hs_13 ?hf_13 ?hr_13 ?hQ_13 (Or.inl ⟨?hw_13, ?hy_13⟩) ?hS_13 ?hrest_13
        case hi_13 => (simp only [List.getElem?_toArray, List.getElem?_cons_succ, List.getElem?_cons_zero]; exact rfl)
        case hz_13 => kernel_rfl
        case hs_13 => kernel_rfl
        case hf_13 => kernel_rfl
        case hr_13 => kernel_rfl
        case hQ_13 => exact fun _ _ _ h => h
        case hw_13 => rfl
        case hS_13 => assumption
        case hy_13 => (intro w hSw; (try dsimp only at hSw); go_simp; try with_reducible rfl)
        try simp only [Act.put, List.setIfInBounds_toArray, List.set_cons_zero, List.set_cons_succ]
        refine anyZ_free (i := 2) (oi := ?oi_14) (v := ?v_14) ?hi_14 ?hs_14 ?hf_14 ?hr_14 ?hQ_14 (Or.inl ⟨?hw_14, ?hy_14⟩) ?hrest_14
        case hi_14 => (simp only [List.getElem?_toArray, List.getElem?_cons_succ, List.getElem?_cons_zero]; exact rfl)
        case hs_14 => kernel_rfl
        case hf_14 => kernel_rfl
        case hr_14 => kernel_rfl
        case hQ_14 => exact fun _ _ _ h => h
        case hw_14 => rfl
        case hy_14 => (intro w _; go_simp; try with_reducible rfl)
        try simp only [Act.put, List.setIfInBounds_toArray, List.set_cons_zero, List.set_cons_succ]
        refine anyZ_free (i := 3) (oi := ?oi_15) (v := ?v_15) ?hi_15 ?hs_15 ?hf_15 ?hr_15 ?hQ_15 (Or.inl ⟨?hw_15, ?hy_15⟩) ?hrest_15
        case hi_15 => (simp only [List.getElem?_toArray, List.getElem?_cons_succ, List.getElem?_cons_zero]; exact rfl)
        case hs_15 => kernel_rfl
        case hf_15 => kernel_rfl
        case hr_15 => kernel_rfl
        case hQ_15 => exact fun _ _ _ h => h
        case hw_15 => rfl
        case hy_15 => (intro w _; go_simp; try with_reducible rfl)
        try simp only [Act.put, List.setIfInBounds_toArray, List.set_cons_zero, List.set_cons_succ]
        refine anyZ_free (i := 4) (oi := ?oi_16) (v := ?v_16) ?hi_16 ?hs_16 ?hf_16 ?hr_16 ?hQ_16 (Or.inl ⟨?hw_16, ?hy_16⟩) ?hrest_16
        case hi_16 => (simp only [List.getElem?_toArray, List.getElem?_cons_succ, List.getElem?_cons_zero]; exact rfl)
        case hs_16 => kernel_rfl
        case hf_16 => kernel_rfl
        case hr_16 => kernel_rfl
        case hQ_16 => exact fun _ _ _ h => h
        case hw_16 => rfl
        case hy_16 => (intro w _; go_simp; try with_reducible rfl)
        try simp only [Act.put, List.setIfInBounds_toArray, List.set_cons_zero, List.set_cons_succ]
        refine anyZ_free (i := 5) (oi := ?oi_17) (v := ?v_17) ?hi_17 ?hs_17 ?hf_17 ?hr_17 ?hQ_17 (Or.inl ⟨?hw_17, ?hy_17⟩) ?hrest_17
        case hi_17 => (simp only [List.getElem?_toArray, List.getElem?_cons_succ, List.getElem?_cons_zero]; exact rfl)
        case hs_17 => kernel_rfl
        case hf_17 => kernel_rfl
        case hr_17 => kernel_rfl
        case hQ_17 => exact fun _ _ _ h => h
        case hw_17 => rfl
        case hy_17 => (intro w _; go_simp; try with_reducible rfl)
        try simp only [Act.put, List.setIfInBounds_toArray, List.set_cons_zero, List.set_cons_succ]
        refine anyZ_free (i := 6) (oi := ?oi_18) (v := ?v_18) ?hi_18 ?hs_18 ?hf_18 ?hr_18 ?hQ_18 (Or.inl ⟨?hw_18, ?hy_18⟩) ?hrest_18
        case hi_18 => (simp only [List.getElem?_toArray, List.getElem?_cons_succ, List.getElem?_cons_zero]; exact rfl)
        case hs_18 => kernel_rfl
        case hf_18 => kernel_rfl
        case hr_18 => kernel_rfl
        case hQ_18 => exact fun _ _ _ h => h
        case hw_18 => rfl
        case hy_18 => (intro w _; go_simp; try with_reducible rfl)
        try simp only [Act.put, List.setIfInBounds_toArray, List.set_cons_zero, List.set_cons_succ]
        refine anyZ_free (i := 7) (oi := ?oi_19) (v := ?v_19) ?hi_19 ?hs_19 ?hf_19 ?hr_19 ?hQ_19 (Or.inl ⟨?hw_19, ?hy_19⟩) ?hrest_19
        case hi_19 => (simp only [List.getElem?_toArray, List.getElem?_cons_succ, List.getElem?_cons_zero]; exact rfl)
        case hs_19 => kernel_rfl
        case hf_19 => kernel_rfl
        case hr_19 => kernel_rfl
        case hQ_19 => exact fun _ _ _ h => h
        case hw_19 => rfl
        case hy_19 => (intro w _; go_simp; try with_reducible rfl)
        try simp only [Act.put, List.setIfInBounds_toArray, List.set_cons_zero, List.set_cons_succ]
        refine anyZ_ready (rs := [8]) (by kernel_rfl) (by simp) ?_
        refine (AllZ.cons (o := ?o_20) ?ho_20 (fun K hK => ?st_20) AllZ.nil)
        case ho_20 => (simp only [List.getElem?_toArray, List.getElem?_cons_succ, List.getElem?_cons_zero]; exact rfl)
        case st_20 =>
          go_simp
          refine hK.out _ _ (by ((try dsimp only); ((refine cells_and (cells2 ?_) (cells2 ?_); (focus (repeat' (first | (with_reducible first | assumption | exact Two.own (by with_reducible assumption) | refine Two.set ?_ _ _ | refine Own2.set ?_ _ _ | refine Two.drew ?_ | refine Two.drewN ?_ _ | refine Own2.drew ?_ | refine Own2.drewN ?_ _ | (refine Two.new ?_; simp only [szs]; done) | (refine Own2.new ?_; simp only [szs]; done) | refine Two.alloc ?_ _ | refine Own2.alloc ?_ _ | refine Two.far ?_ ?_ _ _ | refine Own2.far ?_ ?_ _ _ | refine Two.via (by with_reducible assumption) ?_ ?_ | refine Own2.via (by with_reducible assumption) ?_ ?_) | omega | (simp only [szs]; omega)))); (focus (repeat' (first | (with_reducible first | assumption | exact Two.own (by with_reducible assumption) | refine Two.set ?_ _ _ | refine Own2.set ?_ _ _ | refine Two.drew ?_ | refine Two.drewN ?_ _ | refine Own2.drew ?_ | refine Own2.drewN ?_ _ | (refine Two.new ?_; simp only [szs]; done) | (refine Own2.new ?_; simp only [szs]; done) | refine Two.alloc ?_ _ | refine Own2.alloc ?_ _ | refine Two.far ?_ ?_ _ _ | refine Own2.far ?_ ?_ _ _ | refine Two.via (by with_reducible assumption) ?_ ?_ | refine Own2.via (by with_reducible assumption) ?_ ?_) | omega | (simp only [szs]; omega)))))))) (fun hHeld => ?_)
          clear hK K
          try simp only [Act.put, List.setIfInBounds_toArray, List.set_cons_zero, List.set_cons_succ]
          refine anyZ_ready (rs := [9]) (by kernel_rfl) (by simp) ?_
          refine (AllZ.last (o := ?o_21) ?ho_21 (by rfl) (fun K hK => ?st_21) AllZ.nil)
          case ho_21 => (simp only [List.getElem?_toArray, List.getElem?_cons_succ, List.getElem?_cons_zero]; exact rfl)
          case st_21 =>
            go_simp
            refine hK.out _ _ ?_
            clear hK K
            try simp only [Act.put, List.setIfInBounds_toArray, List.set_cons_zero, List.set_cons_succ]
            refine anyZ_ready (rs := [10]) (by kernel_rfl) (by simp) ?_
            refine (AllZ.last (o := ?o_22) ?ho_22 (by rfl) (fun K hK => ?st_22) AllZ.nil)
            case ho_22 => (simp only [List.getElem?_toArray, List.getElem?_cons_succ, List.getElem?_cons_zero]; exact rfl)
            case st_22 =>
              go_simp
              refine hK.out _ _ ?_
              clear hK K
              try simp only [Act.put, List.setIfInBounds_toArray, List.set_cons_zero, List.set_cons_succ]
              refine anyZ_done (by kernel_rfl) ?_ _
              refine NoPanic.normal ?_
              go_wp2
              have hB2 : Below w.heap.size w (((((wr.setCell ⟨w.heap.size, 0, none⟩ (.int .u64 A)).setCell ⟨w.heap.size, 1, none⟩ (.int .u64 B)).setCell ⟨w.heap.size + 1, 0, none⟩ (.int .u64 C)).setCell ⟨w.heap.size + 1, 1, none⟩ (.int .u64 D)).drew) := by (repeat' (first | (with_reducible first | exact Below.refl _ _ | assumption | refine Below.alloc ?_ ?_ _ | refine Below.drew ?_ | refine below_drewN ?_ _ | refine Below.setCell ?_ ?_ _ | refine below_via (by with_reducible assumption) ?_ ?_) | omega | (simp only [szs]; omega) | (simp only [szs] at *; omega)))
              have r0 : Two (((((wr.setCell ⟨w.heap.size, 0, none⟩ (.int .u64 A)).setCell ⟨w.heap.size, 1, none⟩ (.int .u64 B)).setCell ⟨w.heap.size + 1, 0, none⟩ (.int .u64 C)).setCell ⟨w.heap.size + 1, 1, none⟩ (.int .u64 D)).drew) w.heap.size (.int .u64 A) (.int .u64 B) := by (repeat' (first | (with_reducible first | assumption | exact Two.own (by with_reducible assumption) | refine Two.set ?_ _ _ | refine Own2.set ?_ _ _ | refine Two.drew ?_ | refine Two.drewN ?_ _ | refine Own2.drew ?_ | refine Own2.drewN ?_ _ | (refine Two.new ?_; simp only [szs]; done) | (refine Own2.new ?_; simp only [szs]; done) | refine Two.alloc ?_ _ | refine Own2.alloc ?_ _ | refine Two.far ?_ ?_ _ _ | refine Own2.far ?_ ?_ _ _ | refine Two.via (by with_reducible assumption) ?_ ?_ | refine Own2.via (by with_reducible assumption) ?_ ?_) | omega | (simp only [szs]; omega)))
              have r1 : Two (((((wr.setCell ⟨w.heap.size, 0, none⟩ (.int .u64 A)).setCell ⟨w.heap.size, 1, none⟩ (.int .u64 B)).setCell ⟨w.heap.size + 1, 0, none⟩ (.int .u64 C)).setCell ⟨w.heap.size + 1, 1, none⟩ (.int .u64 D)).drew) (w.heap.size + 1) (.int .u64 C) (.int .u64 D) := by (repeat' (first | (with_reducible first | assumption | exact Two.own (by with_reducible assumption) | refine Two.set ?_ _ _ | refine Own2.set ?_ _ _ | refine Two.drew ?_ | refine Two.drewN ?_ _ | refine Own2.drew ?_ | refine Own2.drewN ?_ _ | (refine Two.new ?_; simp only [szs]; done) | (refine Own2.new ?_; simp only [szs]; done) | refine Two.alloc ?_ _ | refine Own2.alloc ?_ _ | refine Two.far ?_ ?_ _ _ | refine Own2.far ?_ ?_ _ _ | refine Two.via (by with_reducible assumption) ?_ ?_ | refine Own2.via (by with_reducible assumption) ?_ ?_) | omega | (simp only [szs]; omega)))
              generalize ((((wr.setCell ⟨w.heap.size, 0, none⟩ (.int .u64 A)).setCell ⟨w.heap.size, 1, none⟩ (.int .u64 B)).setCell ⟨w.heap.size + 1, 0, none⟩ (.int .u64 C)).setCell ⟨w.heap.size + 1, 1, none⟩ (.int .u64 D)).drew = W at *
              clear e1 e2 e3 e4 e5 f1 f2 f3 f4 f5 k1 k2 k3 k4 k5 n1 n2 n3 n4 n5
              have ⟨e1, e2, e3, e4, e5⟩ := r0
              have ⟨f1, f2, f3, f4, f5⟩ := r1
              exact bodyPost_ret (v := .tuple #[.agg #[.int .u64 A, .int .u64 B], .agg #[.int .u64 C, .int .u64 D], .bool RE]) (by simp [results, Try.results11, go_sem, *]) rfl ⟨rfl, hB2⟩
end Go.Proofs.Ytgjpdamojfkpiab
