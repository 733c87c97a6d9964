/-
  The walk of layer 7's statement on what stays: a point, and bytes.
-/
import Derived.Test.YtoigpjaffggekabDoorUpD
import Derived.Test.YtoigpjaffggekabDoorEdC
import Derived.Test.YtoigpjaffggekabDoorRefY
import Derived.Deep.AppendLies
import Derived.Laws.OwnMore
import Derived.Deep.DeepCutAuto
namespace Go.Proofs.YtoigpjaffggekabDoor
open Go.RowKit Go.Proofs
set_option linter.unusedVariables false
set_option linter.unusedSimpArgs false
attribute [local go_sem ↓] Go.wp_at_zero Go.wp_at_succ
theorem equal_same (w : World) (x y : Int) : (Op.equalIn 10000 24 (.agg #[.int .u64 x, .int .u64 y]) (.agg #[.int .u64 x, .int .u64 y])).run Tryd.prog w = .ok true w := by
  rw [equal_Ed]; simp
attribute [local go_sem] equal_same

set_option maxHeartbeats 4000000 in
set_option maxRecDepth 8000 in
theorem stays_yes (x y : Int) (plen : Nat) (pz : Nat → Nat) (hpz : ∀ j, pz j < 256) (hpl : plen ≤ 17) (b off len cap : Nat) (z : Nat → Nat) (hz : ∀ i, z i < 256) (xx xy : Int) (fv : Value) (w : World) (hlen : 0 < len) (hcap : len ≤ cap) (hreach : cap ≤ 140737488351232) (hY : Bys w b off len z) (hfv : fv = .nilIface ∨ fv = .iface 49 (.int .i64 3))
   (cw : ∀ w, Calls Tryd.prog 12 #[.agg #[.int .u64 x, .int .u64 y]] w fun e w' => ∃ g cap, e = .returned (.tuple #[.slice (some ⟨g, 0, none⟩) plen cap, .nilIface]) ∧ w.heap.size ≤ g ∧ plen ≤ cap ∧ Bys w' g 0 plen pz ∧ (∀ o, w'.frozen? ⟨g, o, none⟩ = false) ∧ Below w.heap.size w w')
   (rb : ∀ w, Calls Tryd.prog 13 #[.agg #[.int .u64 x, .int .u64 y]] w fun e w' => ∃ g cap, e = .returned (.slice (some ⟨g, 0, none⟩) plen cap) ∧ w.heap.size ≤ g ∧ Bys w' g 0 plen pz ∧ Below w.heap.size w w')
   (cr : ∀ (b' off' cap' : Nat) (w1 : World), Below w.heap.size w w1 → Bys w1 b' off' len z → len ≤ cap' → Calls Tryd.prog 11 #[.slice (some ⟨b', off', none⟩) len cap'] w1 fun e w' => e = .returned (.tuple #[.agg #[.int .u64 xx, .int .u64 xy], fv]) ∧ Below w1.heap.size w1 w') :
    Calls Tryd.prog 4 #[.agg #[.int .u64 x, .int .u64 y], .slice (some ⟨b, off, none⟩) len cap] w fun e w' => e = .returned (.bool true) ∧ Below w.heap.size w w' := by
  have cu := upW
  obtain ⟨i0, hi, hz1, hz2, hz0⟩ := byteInfo
  go_enter Tryd.func4, Tryd.ntmps4
  go_upto_region 2 with (first | (go_at_call 5; first | (with_reducible refine (cu _).mono ?_; rintro e w_cu ⟨rfl, b_cu⟩; have z_cu := b_cu.size; (try simp only [szs] at z_cu))))
  have ta : Two w_cu w.heap.size (.int .u64 x) (.int .u64 y) := by (repeat' (first | (with_reducible first | assumption | exact Two.own (by with_reducible assumption) | refine Two.set ?_ _ _ | refine Own2.set ?_ _ _ | refine Two.drew ?_ | refine Two.drewN ?_ _ | refine Own2.drew ?_ | refine Own2.drewN ?_ _ | (refine Two.new ?_; simp only [szs]; done) | (refine Own2.new ?_; simp only [szs]; done) | refine Two.alloc ?_ _ | refine Own2.alloc ?_ _ | refine Two.far ?_ ?_ _ _ | refine Own2.far ?_ ?_ _ _ | refine Two.via (by with_reducible assumption) ?_ ?_ | refine Own2.via (by with_reducible assumption) ?_ ?_) | omega | (simp only [szs]; omega)))
  have hB : Below w.heap.size w w_cu := by (repeat' (first | (with_reducible first | exact Below.refl _ _ | assumption | refine Below.alloc ?_ ?_ _ | refine Below.drew ?_ | refine below_drewN ?_ _ | refine Below.setCell ?_ ?_ _ | refine below_via (by with_reducible assumption) ?_ ?_) | omega | (simp only [szs]; omega) | (simp only [szs] at *; omega)))
  have hown0 : (w_cu.alloc (.cells #[] 5)).ownsRow w_cu.heap.size 5 1 (.slice (some ⟨w_cu.heap.size, 0, none⟩) 0 0) 0 [] := World.ownsRow_made w_cu #[] 0 (Nat.le_refl _) (by decide) rfl
  have hY0 : Bys (w_cu.alloc (.cells #[] 5)) b off len z := (hY.below hB hY.lt).alloc _
  go_upto_region 3 with (at_builtin; refine wpList_append_lies _ rfl _ _ 35 rfl w_cu.heap.size 5 i0 _ 1 1 Tryd.underlying35 hi hz0 hz1 hz2 rfl (by decide) _ 0 [] rfl hown0 ⟨b, off, none⟩ len cap (vals z len) rfl (by simp [vals]) (bys_news hY0) (vals_one z len) hlen (by unfold maxLen; omega) (by omega) (by simp) (w_cu.heap.size + 1) (by simp) ?_; intro g ocap w1 hown1 hgrow hat hlt)
  have hgl := (hown1.lt g rfl).1
  have hbw : Below w_cu.heap.size w_cu w1 := ((Below.refl _ _).alloc (Nat.le_refl _) _).grown hgrow (by simp) (fun k h => by cases h; exact Nat.le_refl _)
  rw [Nat.zero_add, List.nil_append] at hown1
  have yo : Bys w1 g 0 len z := bys_of_row hown1
  have fo := free_of_row hown1
  have hoc := (cap_of_row hown1).1
  have ta1 : Two w1 w.heap.size (.int .u64 x) (.int .u64 y) := ta.below hbw ta.lt
  have hB1 : Below w.heap.size w w1 := hB.trans (hbw.mono hB.size)
  have lA : w.heap.size < g := Nat.lt_of_lt_of_le ta.lt hgl
  clear hown0 hown1 hgrow hat hY0 ta hB hbw b_cu z_cu cu hgl
  have c1 := fun w' (hb : Below w.heap.size w w') (h : Bys w' g 0 len z) => cr g 0 ocap w' hb h hoc
  go_upto_region 4 with (go_at_call 11; (with_reducible refine Calls.mono (c1 _ hB1 yo) ?_); rintro e w_c1 ⟨rfl, b_c1⟩)
  have z_c1 := b_c1.size
  have ta : Two (w_c1.alloc (.cells #[.int .u64 xx, .int .u64 xy] 24)) w.heap.size (.int .u64 x) (.int .u64 y) := by have := ta1.lt; (repeat' (first | (with_reducible first | assumption | exact Two.own (by with_reducible assumption) | refine Two.set ?_ _ _ | refine Own2.set ?_ _ _ | refine Two.drew ?_ | refine Two.drewN ?_ _ | refine Own2.drew ?_ | refine Own2.drewN ?_ _ | (refine Two.new ?_; simp only [szs]; done) | (refine Own2.new ?_; simp only [szs]; done) | refine Two.alloc ?_ _ | refine Own2.alloc ?_ _ | refine Two.far ?_ ?_ _ _ | refine Own2.far ?_ ?_ _ _ | refine Two.via (by with_reducible assumption) ?_ ?_ | refine Own2.via (by with_reducible assumption) ?_ ?_) | omega | (simp only [szs]; omega)))
  have tx : Two (w_c1.alloc (.cells #[.int .u64 xx, .int .u64 xy] 24)) w_c1.heap.size (.int .u64 xx) (.int .u64 xy) := by (repeat' (first | (with_reducible first | assumption | exact Two.own (by with_reducible assumption) | refine Two.set ?_ _ _ | refine Own2.set ?_ _ _ | refine Two.drew ?_ | refine Two.drewN ?_ _ | refine Own2.drew ?_ | refine Own2.drewN ?_ _ | (refine Two.new ?_; simp only [szs]; done) | (refine Own2.new ?_; simp only [szs]; done) | refine Two.alloc ?_ _ | refine Own2.alloc ?_ _ | refine Two.far ?_ ?_ _ _ | refine Own2.far ?_ ?_ _ _ | refine Two.via (by with_reducible assumption) ?_ ?_ | refine Own2.via (by with_reducible assumption) ?_ ?_) | omega | (simp only [szs]; omega)))
  have yo4 : Bys (w_c1.alloc (.cells #[.int .u64 xx, .int .u64 xy] 24)) g 0 len z := (yo.below b_c1 yo.lt).alloc _
  have hB4 : Below w.heap.size w (w_c1.alloc (.cells #[.int .u64 xx, .int .u64 xy] 24)) := by have := hB1.size; (repeat' (first | (with_reducible first | exact Below.refl _ _ | assumption | refine Below.alloc ?_ ?_ _ | refine Below.drew ?_ | refine below_drewN ?_ _ | refine Below.setCell ?_ ?_ _ | refine below_via (by with_reducible assumption) ?_ ?_) | omega | (simp only [szs]; omega) | (simp only [szs] at *; omega)))
  have fo4 : ∀ o, (w_c1.alloc (.cells #[.int .u64 xx, .int .u64 xy] 24)).frozen? ⟨g, o, none⟩ = false := fun o => by
    rw [(bcell ((Below.refl w_c1.heap.size w_c1).alloc (Nat.le_refl _) _)).2 g o (by omega), (bcell b_c1).2 g o hlt]
    exact fo o
  have lx : g < w_c1.heap.size := by omega
  have yb4 := hY.below hB4 hY.lt
  generalize w_c1.alloc (.cells #[.int .u64 xx, .int .u64 xy] 24) = w4 at ta tx yo4 yb4 hB4 fo4 ⊢
  generalize w_c1.heap.size = bx at tx lx ⊢
  clear c1 yo fo ta1 hB1 b_c1 z_c1 hlt
  have e1 := bys_str g 0 len ocap z w4 yo4
  have e2 := bys_str b off len cap z w4 yb4
  generalize strOfNums (nums z len) = s at e1 e2
  have lb := hY.lt
  go_wp2
  have wo := Wby.of_bys hz yo4 fo4
  have lA' := Nat.ne_of_gt lA
  have lx' := Nat.ne_of_lt lx
  clear e1 e2 yo4 fo4 yb4
  go_loopw [10] (fun si wr => ∃ k : Nat, k ≤ len ∧ si = .int .i64 k ∧ Two wr w.heap.size (.int .u64 x) (.int .u64 y) ∧ Two wr bx (.int .u64 xx) (.int .u64 xy) ∧ Wby wr g len ∧ Below w.heap.size w wr) (fun si _ => len - (intOf si).toNat)
  case atStart => exact ⟨0, by omega, rfl, ta, tx, wo, hB4⟩
  case round =>
    obtain ⟨k, hk, rfl, ra, rx, ro, rB⟩ := hrel
    clear ta tx wo hB4
    by_cases hlt : k < len
    · obtain ⟨v, hv, hc⟩ := ro.at_ k hlt
      have hf := ro.free k
      have hw := wrap_succ v
      go_wp2
      go_roundw
      case rel => exact ⟨k + 1, by omega, by go_num, ra.far lA' _ _, rx.far lx' _ _, ro.set _ (Nat.mod_lt _ (by decide)) hlt, rB.setCell (Nat.le_of_lt lA) _⟩
      case measure => simp [intOf]; omega
    · obtain rfl : k = len := by omega
      clear lA lx lA' lx' ro
      have c2 := fun w1 (h : Below w.heap.size w w1) => cr b off cap w1 h (hY.below h hY.lt) hcap
      have ⟨ta0, ta1, fa0, fa1, la⟩ := ra
      have lx := rx.lt
      go_upto_region 10 with (go_at_call 12; (with_reducible refine Calls.mono (cw _) ?_); rintro e w_cw ⟨g2, cap2, rfl, hg2, hc2, hy2, hf2, b_cw⟩)
      have sa : Two w_cw w.heap.size (.int .u64 x) (.int .u64 y) := ra.below b_cw ra.lt
      have sx : Two w_cw bx (.int .u64 xx) (.int .u64 xy) := rx.below b_cw rx.lt
      have sB : Below w.heap.size w w_cw := rB.trans (b_cw.mono rB.size)
      have so := Wby.of_bys hpz hy2 hf2
      have na : g2 ≠ w.heap.size := by omega
      have nx : g2 ≠ bx := by omega
      have ng : w.heap.size ≤ g2 := by omega
      clear ra rx rB ta0 ta1 fa0 fa1 la lx b_cw hy2 hf2 hg2
      go_wp2
      go_loopw [13] (fun si wr => ∃ k : Nat, k ≤ plen ∧ si = .int .i64 k ∧ Two wr w.heap.size (.int .u64 x) (.int .u64 y) ∧ Two wr bx (.int .u64 xx) (.int .u64 xy) ∧ Wby wr g2 plen ∧ Below w.heap.size w wr) (fun si _ => plen - (intOf si).toNat)
      case atStart => exact ⟨0, by omega, rfl, sa, sx, so, sB⟩
      case round =>
        obtain ⟨j, hj, rfl, ra, rx, ro, rB⟩ := hrel
        clear sa sx so sB
        by_cases hjl : j < plen
        · obtain ⟨v, hv, hc⟩ := ro.at_ j hjl
          have hf := ro.free j
          have hw := wrap_succ v
          go_wp2
          go_roundw
          case rel => exact ⟨j + 1, by omega, by go_num, ra.far na _ _, rx.far nx _ _, ro.set _ (Nat.mod_lt _ (by decide)) hjl, rB.setCell ng _⟩
          case measure => simp [intOf]; omega
        · obtain rfl : j = plen := by omega
          have ⟨ta0, ta1, fa0, fa1, la⟩ := ra
          have lx := rx.lt
          go_upto_region 15 with (go_at_call 12; (with_reducible refine Calls.mono (cw _) ?_); rintro e w_cv ⟨g3, cap3, rfl, hg3, hc3, hy3, hf3, b_cv⟩)
          have sa : Two w_cv w.heap.size (.int .u64 x) (.int .u64 y) := ra.below b_cv ra.lt
          have sx : Two w_cv bx (.int .u64 xx) (.int .u64 xy) := rx.below b_cv rx.lt
          have sB : Below w.heap.size w w_cv := rB.trans (b_cv.mono rB.size)
          clear ra rx ro rB ta0 ta1 fa0 fa1 la lx b_cv cw hf3 hg3
          go_upto_region 16 with (go_at_call 11; (with_reducible refine Calls.mono (c2 _ sB) ?_); rintro e w_c2 ⟨rfl, b_c2⟩)
          have z_c2 := b_c2.size
          have ta : Two (w_c2.alloc (.cells #[.int .u64 xx, .int .u64 xy] 24)) w.heap.size (.int .u64 x) (.int .u64 y) := (sa.below b_c2 sa.lt).alloc _
          have tx : Two (w_c2.alloc (.cells #[.int .u64 xx, .int .u64 xy] 24)) bx (.int .u64 xx) (.int .u64 xy) := (sx.below b_c2 sx.lt).alloc _
          have ty : Two (w_c2.alloc (.cells #[.int .u64 xx, .int .u64 xy] 24)) w_c2.heap.size (.int .u64 xx) (.int .u64 xy) := Two.new rfl
          have tv : Bys (w_c2.alloc (.cells #[.int .u64 xx, .int .u64 xy] 24)) g3 0 j pz := (hy3.below b_c2 hy3.lt).alloc _
          have hB : Below w.heap.size w (w_c2.alloc (.cells #[.int .u64 xx, .int .u64 xy] 24)) := by have := sB.size; (repeat' (first | (with_reducible first | exact Below.refl _ _ | assumption | refine Below.alloc ?_ ?_ _ | refine Below.drew ?_ | refine below_drewN ?_ _ | refine Below.setCell ?_ ?_ _ | refine below_via (by with_reducible assumption) ?_ ?_) | omega | (simp only [szs]; omega) | (simp only [szs] at *; omega)))
          generalize w_c2.alloc (.cells #[.int .u64 xx, .int .u64 xy] 24) = w6 at ta tx ty tv hB ⊢
          generalize w_c2.heap.size = bt at ty ⊢
          clear sa sx sB b_c2 z_c2 c2 hy3
          have ⟨a1, a2, a3, a4, a5⟩ := ta
          have ⟨x1, x2, x3, x4, x5⟩ := tx
          have ⟨y1, y2, y3, y4, y5⟩ := ty
          have lv := tv.lt
          have hv : Hid (∀ g cap w', Bys w' g 0 j pz → (convert 35 9 (.slice (some ⟨g, 0, none⟩) j cap)).run Tryd.prog w' = .ok (.string (strOfNums (nums pz j))) w') := fun g cap w' h => bys_str g 0 j cap pz w' h
          generalize strOfNums (nums pz j) = st at hv
          rcases hfv with rfl | rfl
          · skip
            refine wp_region_noPanic ?_
            refine wp_region_held_drew (S := (fun w' => w'.cell? ⟨w.heap.size, 0, none⟩ = some (.int .u64 x) ∧ w'.cell? ⟨w.heap.size, 1, none⟩ = some (.int .u64 y) ∧ w'.cell? ⟨bx, 0, none⟩ = some (.int .u64 xx) ∧ w'.cell? ⟨bx, 1, none⟩ = some (.int .u64 xy) ∧ w'.cell? ⟨bt, 0, none⟩ = some (.int .u64 xx) ∧ w'.cell? ⟨bt, 1, none⟩ = some (.int .u64 xy) ∧ (convert 35 9 (.slice (some ⟨g3, 0, none⟩) j cap3)).run Tryd.prog w' = .ok (.string st) w')) (by kernel_rfl) (by first | exact ⟨a1, a2, x1, x2, y1, y2, hv.out _ _ _ tv.drew⟩) (fun hHeld => ?_)
            refine wpAnyH_take (i := 0) (oi := ?oi_1) (v := ?v_1) ?hi_1 ?hs_1 ?hf_1 ?hr_1 ?hQ_1 (Or.inl ⟨?hw_1, ?hy_1⟩) ?hS_1 ?hrest_1
            case hi_1 => (simp only [List.getElem?_toArray, List.getElem?_cons_succ, List.getElem?_cons_zero]; exact rfl)
            case hs_1 => kernel_rfl
            case hf_1 => kernel_rfl
            case hr_1 => kernel_rfl
            case hQ_1 => exact fun _ _ _ h => h
            case hw_1 => rfl
            case hS_1 => assumption
            case hy_1 => (intro w hSw; (try dsimp only at hSw); go_simp; try with_reducible rfl)
            try simp only [Act.put, List.setIfInBounds_toArray, List.set_cons_zero, List.set_cons_succ]
            refine wpAnyH_take (i := 1) (oi := ?oi_2) (v := ?v_2) ?hi_2 ?hs_2 ?hf_2 ?hr_2 ?hQ_2 (Or.inl ⟨?hw_2, ?hy_2⟩) ?hS_2 ?hrest_2
            case hi_2 => (simp only [List.getElem?_toArray, List.getElem?_cons_succ, List.getElem?_cons_zero]; exact rfl)
            case hs_2 => kernel_rfl
            case hf_2 => kernel_rfl
            case hr_2 => kernel_rfl
            case hQ_2 => exact fun _ _ _ h => h
            case hw_2 => rfl
            case hS_2 => assumption
            case hy_2 => (intro w hSw; (try dsimp only at hSw); go_simp; try with_reducible rfl)
            try simp only [Act.put, List.setIfInBounds_toArray, List.set_cons_zero, List.set_cons_succ]
            refine wpAnyH_take (i := 2) (oi := ?oi_3) (v := ?v_3) ?hi_3 ?hs_3 ?hf_3 ?hr_3 ?hQ_3 (Or.inl ⟨?hw_3, ?hy_3⟩) ?hS_3 ?hrest_3
            case hi_3 => (simp only [List.getElem?_toArray, List.getElem?_cons_succ, List.getElem?_cons_zero]; exact rfl)
            case hs_3 => kernel_rfl
            case hf_3 => kernel_rfl
            case hr_3 => kernel_rfl
            case hQ_3 => exact fun _ _ _ h => h
            case hw_3 => rfl
            case hS_3 => assumption
            case hy_3 => (intro w hSw; (try dsimp only at hSw); go_simp; try with_reducible rfl)
            try simp only [Act.put, List.setIfInBounds_toArray, List.set_cons_zero, List.set_cons_succ]
            refine wpAnyH_take (i := 3) (oi := ?oi_4) (v := ?v_4) ?hi_4 ?hs_4 ?hf_4 ?hr_4 ?hQ_4 (Or.inl ⟨?hw_4, ?hy_4⟩) ?hS_4 ?hrest_4
            case hi_4 => (simp only [List.getElem?_toArray, List.getElem?_cons_succ, List.getElem?_cons_zero]; exact rfl)
            case hs_4 => kernel_rfl
            case hf_4 => kernel_rfl
            case hr_4 => kernel_rfl
            case hQ_4 => exact fun _ _ _ h => h
            case hw_4 => rfl
            case hS_4 => assumption
            case hy_4 => (intro w hSw; (try dsimp only at hSw); go_simp; try with_reducible rfl)
            try simp only [Act.put, List.setIfInBounds_toArray, List.set_cons_zero, List.set_cons_succ]
            refine wpAnyH_take (i := 4) (oi := ?oi_5) (v := ?v_5) ?hi_5 ?hs_5 ?hf_5 ?hr_5 ?hQ_5 (Or.inl ⟨?hw_5, ?hy_5⟩) ?hS_5 ?hrest_5
            case hi_5 => (simp only [List.getElem?_toArray, List.getElem?_cons_succ, List.getElem?_cons_zero]; exact rfl)
            case hs_5 => kernel_rfl
            case hf_5 => kernel_rfl
            case hr_5 => kernel_rfl
            case hQ_5 => exact fun _ _ _ h => h
            case hw_5 => rfl
            case hS_5 => assumption
            case hy_5 => (intro w hSw; (try dsimp only at hSw); go_simp; try with_reducible rfl)
            try simp only [Act.put, List.setIfInBounds_toArray, List.set_cons_zero, List.set_cons_succ]
            refine wpAnyH_take (i := 5) (oi := ?oi_6) (v := ?v_6) ?hi_6 ?hs_6 ?hf_6 ?hr_6 ?hQ_6 (Or.inl ⟨?hw_6, ?hy_6⟩) ?hS_6 ?hrest_6
            case hi_6 => (simp only [List.getElem?_toArray, List.getElem?_cons_succ, List.getElem?_cons_zero]; exact rfl)
            case hs_6 => kernel_rfl
            case hf_6 => kernel_rfl
            case hr_6 => kernel_rfl
            case hQ_6 => exact fun _ _ _ h => h
            case hw_6 => rfl
            case hS_6 => assumption
            case hy_6 => (intro w hSw; (try dsimp only at hSw); go_simp; try with_reducible rfl)
            try simp only [Act.put, List.setIfInBounds_toArray, List.set_cons_zero, List.set_cons_succ]
            refine wpAnyH_take (i := 6) (oi := ?oi_7) (v := ?v_7) ?hi_7 ?hs_7 ?hf_7 ?hr_7 ?hQ_7 (Or.inl ⟨?hw_7, ?hy_7⟩) ?hS_7 ?hrest_7
            case hi_7 => (simp only [List.getElem?_toArray, List.getElem?_cons_succ, List.getElem?_cons_zero]; exact rfl)
            case hs_7 => kernel_rfl
            case hf_7 => kernel_rfl
            case hr_7 => kernel_rfl
            case hQ_7 => exact fun _ _ _ h => h
            case hw_7 => rfl
            case hS_7 => assumption
            case hy_7 => (intro w hSw; (try dsimp only at hSw); go_simp; try with_reducible rfl)
            try simp only [Act.put, List.setIfInBounds_toArray, List.set_cons_zero, List.set_cons_succ]
            refine wpAnyH_take (i := 7) (oi := ?oi_8) (v := ?v_8) ?hi_8 ?hs_8 ?hf_8 ?hr_8 ?hQ_8 (Or.inl ⟨?hw_8, ?hy_8⟩) ?hS_8 ?hrest_8
            case hi_8 => (simp only [List.getElem?_toArray, List.getElem?_cons_succ, List.getElem?_cons_zero]; exact rfl)
            case hs_8 => kernel_rfl
            case hf_8 => kernel_rfl
            case hr_8 => kernel_rfl
            case hQ_8 => exact fun _ _ _ h => h
            case hw_8 => rfl
            case hS_8 => assumption
            case hy_8 => (intro w hSw; (try dsimp only at hSw); go_simp; try with_reducible rfl)
            try simp only [Act.put, List.setIfInBounds_toArray, List.set_cons_zero, List.set_cons_succ]
            refine wpAnyH_take (i := 8) (oi := ?oi_9) (v := ?v_9) ?hi_9 ?hs_9 ?hf_9 ?hr_9 ?hQ_9 (Or.inl ⟨?hw_9, ?hy_9⟩) ?hS_9 ?hrest_9
            case hi_9 => (simp only [List.getElem?_toArray, List.getElem?_cons_succ, List.getElem?_cons_zero]; exact rfl)
            case hs_9 => kernel_rfl
            case hf_9 => kernel_rfl
            case hr_9 => kernel_rfl
            case hQ_9 => exact fun _ _ _ h => h
            case hw_9 => rfl
            case hS_9 => assumption
            case hy_9 => (intro w hSw; (try dsimp only at hSw); go_simp; try with_reducible rfl)
            try simp only [Act.put, List.setIfInBounds_toArray, List.set_cons_zero, List.set_cons_succ]
            refine wpAnyH_take (i := 9) (oi := ?oi_10) (v := ?v_10) ?hi_10 ?hs_10 ?hf_10 ?hr_10 ?hQ_10 (Or.inl ⟨?hw_10, ?hy_10⟩) ?hS_10 ?hrest_10
            case hi_10 => (simp only [List.getElem?_toArray, List.getElem?_cons_succ, List.getElem?_cons_zero]; exact rfl)
            case hs_10 => kernel_rfl
            case hf_10 => kernel_rfl
            case hr_10 => kernel_rfl
            case hQ_10 => exact fun _ _ _ h => h
            case hw_10 => rfl
            case hS_10 => assumption
            case hy_10 => (intro w hSw; (try dsimp only at hSw); go_simp; try with_reducible rfl)
            try simp only [Act.put, List.setIfInBounds_toArray, List.set_cons_zero, List.set_cons_succ]
            refine wpAnyH_take (i := 10) (oi := ?oi_11) (v := ?v_11) ?hi_11 ?hs_11 ?hf_11 ?hr_11 ?hQ_11 (Or.inl ⟨?hw_11, ?hy_11⟩) ?hS_11 ?hrest_11
            case hi_11 => (simp only [List.getElem?_toArray, List.getElem?_cons_succ, List.getElem?_cons_zero]; exact rfl)
            case hs_11 => kernel_rfl
            case hf_11 => kernel_rfl
            case hr_11 => kernel_rfl
            case hQ_11 => exact fun _ _ _ h => h
            case hw_11 => rfl
            case hS_11 => assumption
            case hy_11 => (intro w hSw; (try dsimp only at hSw); go_simp; try with_reducible rfl)
            try simp only [Act.put, List.setIfInBounds_toArray, List.set_cons_zero, List.set_cons_succ]
            refine wpAnyH_take (i := 11) (oi := ?oi_12) (v := ?v_12) ?hi_12 ?hs_12 ?hf_12 ?hr_12 ?hQ_12 (Or.inl ⟨?hw_12, ?hy_12⟩) ?hS_12 ?hrest_12
            case hi_12 => (simp only [List.getElem?_toArray, List.getElem?_cons_succ, List.getElem?_cons_zero]; exact rfl)
            case hs_12 => kernel_rfl
            case hf_12 => kernel_rfl
            case hr_12 => kernel_rfl
            case hQ_12 => exact fun _ _ _ h => h
            case hw_12 => rfl
            case hS_12 => assumption
            case hy_12 => (intro w hSw; (try dsimp only at hSw); go_simp; try with_reducible rfl)
            try simp only [Act.put, List.setIfInBounds_toArray, List.set_cons_zero, List.set_cons_succ]
            refine wpAnyH_take (i := 12) (oi := ?oi_13) (v := ?v_13) ?hi_13 ?hs_13 ?hf_13 ?hr_13 ?hQ_13 (Or.inl ⟨?hw_13, ?hy_13⟩) ?hS_13 ?hrest_13
            case hi_13 => (simp only [List.getElem?_toArray, List.getElem?_cons_succ, List.getElem?_cons_zero]; exact rfl)
            case hs_13 => kernel_rfl
            case hf_13 => kernel_rfl
            case hr_13 => kernel_rfl
            case hQ_13 => exact fun _ _ _ h => h
            case hw_13 => rfl
            case hS_13 => assumption
            case hy_13 => (intro w hSw; (try dsimp only at hSw); go_simp; try with_reducible rfl)
            try simp only [Act.put, List.setIfInBounds_toArray, List.set_cons_zero, List.set_cons_succ]
            refine wpAnyH_take (i := 13) (oi := ?oi_14) (v := ?v_14) ?hi_14 ?hs_14 ?hf_14 ?hr_14 ?hQ_14 (Or.inl ⟨?hw_14, ?hy_14⟩) ?hS_14 ?hrest_14
            case hi_14 => (simp only [List.getElem?_toArray, List.getElem?_cons_succ, List.getElem?_cons_zero]; exact rfl)
            case hs_14 => kernel_rfl
            case hf_14 => kernel_rfl
            case hr_14 => kernel_rfl
            case hQ_14 => exact fun _ _ _ h => h
            case hw_14 => rfl
            case hS_14 => assumption
            case hy_14 => (intro w hSw; (try dsimp only at hSw); go_simp; try with_reducible rfl)
            try simp only [Act.put, List.setIfInBounds_toArray, List.set_cons_zero, List.set_cons_succ]
            refine wpAnyH_take (i := 14) (oi := ?oi_15) (v := ?v_15) ?hi_15 ?hs_15 ?hf_15 ?hr_15 ?hQ_15 (Or.inl ⟨?hw_15, ?hy_15⟩) ?hS_15 ?hrest_15
            case hi_15 => (simp only [List.getElem?_toArray, List.getElem?_cons_succ, List.getElem?_cons_zero]; exact rfl)
            case hs_15 => kernel_rfl
            case hf_15 => kernel_rfl
            case hr_15 => kernel_rfl
            case hQ_15 => exact fun _ _ _ h => h
            case hw_15 => rfl
            case hS_15 => assumption
            case hy_15 => (intro w hSw; (try dsimp only at hSw); go_simp; try with_reducible rfl)
            try simp only [Act.put, List.setIfInBounds_toArray, List.set_cons_zero, List.set_cons_succ]
            refine wpAnyH_take (i := 15) (oi := ?oi_16) (v := ?v_16) ?hi_16 ?hs_16 ?hf_16 ?hr_16 ?hQ_16 (Or.inl ⟨?hw_16, ?hy_16⟩) ?hS_16 ?hrest_16
            case hi_16 => (simp only [List.getElem?_toArray, List.getElem?_cons_succ, List.getElem?_cons_zero]; exact rfl)
            case hs_16 => kernel_rfl
            case hf_16 => kernel_rfl
            case hr_16 => kernel_rfl
            case hQ_16 => exact fun _ _ _ h => h
            case hw_16 => rfl
            case hS_16 => assumption
            case hy_16 => (intro w hSw; (try dsimp only at hSw); go_simp; try with_reducible rfl)
            try simp only [Act.put, List.setIfInBounds_toArray, List.set_cons_zero, List.set_cons_succ]
            refine wpAnyH_take (i := 16) (oi := ?oi_17) (v := ?v_17) ?hi_17 ?hs_17 ?hf_17 ?hr_17 ?hQ_17 (Or.inl ⟨?hw_17, ?hy_17⟩) ?hS_17 ?hrest_17
            case hi_17 => (simp only [List.getElem?_toArray, List.getElem?_cons_succ, List.getElem?_cons_zero]; exact rfl)
            case hs_17 => kernel_rfl
            case hf_17 => kernel_rfl
            case hr_17 => kernel_rfl
            case hQ_17 => exact fun _ _ _ h => h
            case hw_17 => rfl
            case hS_17 => assumption
            case hy_17 => (intro w hSw; (try dsimp only at hSw); go_simp; try with_reducible rfl)
            try simp only [Act.put, List.setIfInBounds_toArray, List.set_cons_zero, List.set_cons_succ]
            refine wpAnyH_take (i := 17) (oi := ?oi_18) (v := ?v_18) ?hi_18 ?hs_18 ?hf_18 ?hr_18 ?hQ_18 (Or.inl ⟨?hw_18, ?hy_18⟩) ?hS_18 ?hrest_18
            case hi_18 => (simp only [List.getElem?_toArray, List.getElem?_cons_succ, List.getElem?_cons_zero]; exact rfl)
            case hs_18 => kernel_rfl
            case hf_18 => kernel_rfl
            case hr_18 => kernel_rfl
            case hQ_18 => exact fun _ _ _ h => h
            case hw_18 => rfl
            case hS_18 => assumption
            case hy_18 => (intro w hSw; (try dsimp only at hSw); go_simp; try with_reducible rfl)
            try simp only [Act.put, List.setIfInBounds_toArray, List.set_cons_zero, List.set_cons_succ]
            refine wpAnyH_take (i := 18) (oi := ?oi_19) (v := ?v_19) ?hi_19 ?hs_19 ?hf_19 ?hr_19 ?hQ_19 (Or.inl ⟨?hw_19, ?hy_19⟩) ?hS_19 ?hrest_19
            case hi_19 => (simp only [List.getElem?_toArray, List.getElem?_cons_succ, List.getElem?_cons_zero]; exact rfl)
            case hs_19 => kernel_rfl
            case hf_19 => kernel_rfl
            case hr_19 => kernel_rfl
            case hQ_19 => exact fun _ _ _ h => h
            case hw_19 => rfl
            case hS_19 => assumption
            case hy_19 => (intro w hSw; (try dsimp only at hSw); go_simp; try with_reducible rfl)
            try simp only [Act.put, List.setIfInBounds_toArray, List.set_cons_zero, List.set_cons_succ]
            refine wpAnyH_take (i := 19) (oi := ?oi_20) (v := ?v_20) ?hi_20 ?hs_20 ?hf_20 ?hr_20 ?hQ_20 (Or.inl ⟨?hw_20, ?hy_20⟩) ?hS_20 ?hrest_20
            case hi_20 => (simp only [List.getElem?_toArray, List.getElem?_cons_succ, List.getElem?_cons_zero]; exact rfl)
            case hs_20 => kernel_rfl
            case hf_20 => kernel_rfl
            case hr_20 => kernel_rfl
            case hQ_20 => exact fun _ _ _ h => h
            case hw_20 => rfl
            case hS_20 => assumption
            case hy_20 => (intro w hSw; (try dsimp only at hSw); go_simp; try with_reducible rfl)
            try simp only [Act.put, List.setIfInBounds_toArray, List.set_cons_zero, List.set_cons_succ]
            refine wpAnyH_take (i := 20) (oi := ?oi_21) (v := ?v_21) ?hi_21 ?hs_21 ?hf_21 ?hr_21 ?hQ_21 (Or.inl ⟨?hw_21, ?hy_21⟩) ?hS_21 ?hrest_21
            case hi_21 => (simp only [List.getElem?_toArray, List.getElem?_cons_succ, List.getElem?_cons_zero]; exact rfl)
            case hs_21 => kernel_rfl
            case hf_21 => kernel_rfl
            case hr_21 => kernel_rfl
            case hQ_21 => exact fun _ _ _ h => h
            case hw_21 => rfl
            case hS_21 => assumption
            case hy_21 => (intro w hSw; (try dsimp only at hSw); go_simp; try with_reducible rfl)
            try simp only [Act.put, List.setIfInBounds_toArray, List.set_cons_zero, List.set_cons_succ]
            refine wpAnyH_take (i := 21) (oi := ?oi_22) (v := ?v_22) ?hi_22 ?hs_22 ?hf_22 ?hr_22 ?hQ_22 (Or.inl ⟨?hw_22, ?hy_22⟩) ?hS_22 ?hrest_22
            case hi_22 => (simp only [List.getElem?_toArray, List.getElem?_cons_succ, List.getElem?_cons_zero]; exact rfl)
            case hs_22 => kernel_rfl
            case hf_22 => kernel_rfl
            case hr_22 => kernel_rfl
            case hQ_22 => exact fun _ _ _ h => h
            case hw_22 => rfl
            case hS_22 => assumption
            case hy_22 => (intro w hSw; (try dsimp only at hSw); go_simp; try with_reducible rfl)
            try simp only [Act.put, List.setIfInBounds_toArray, List.set_cons_zero, List.set_cons_succ]
            refine wpAnyH_take (i := 22) (oi := ?oi_23) (v := ?v_23) ?hi_23 ?hs_23 ?hf_23 ?hr_23 ?hQ_23 (Or.inl ⟨?hw_23, ?hy_23⟩) ?hS_23 ?hrest_23
            case hi_23 => (simp only [List.getElem?_toArray, List.getElem?_cons_succ, List.getElem?_cons_zero]; exact rfl)
            case hs_23 => kernel_rfl
            case hf_23 => kernel_rfl
            case hr_23 => kernel_rfl
            case hQ_23 => exact fun _ _ _ h => h
            case hw_23 => rfl
            case hS_23 => assumption
            case hy_23 => (intro w hSw; (try dsimp only at hSw); go_simp; try with_reducible rfl)
            try simp only [Act.put, List.setIfInBounds_toArray, List.set_cons_zero, List.set_cons_succ]
            refine wpAnyH_ready (rs := [23]) (by kernel_rfl) (by simp) ?_
            refine (AllReadyH.cons (o := ?o_55) ?ho_55 (fun K hK => ?st_55) AllReadyH.nil)
            case ho_55 => (simp only [List.getElem?_toArray, List.getElem?_cons_succ, List.getElem?_cons_zero]; exact rfl)
            go_simp
            (go_at_call 13; (with_reducible refine Calls.mono (rb _) ?_); rintro e w7 ⟨g', cap', rfl, hg', hy', b7⟩)
            have z7 := b7.size
            simp only [World.size_drew] at z7 b7
            have k1 := (bcell b7).1 w.heap.size
            have k2 := (bcell b7).1 bx
            have k3 := (bcell b7).1 bt
            have c0 := k1 0 (by omega); have c1 := k1 1 (by omega); have c2 := k1 2 (by omega)
            have c3 := k2 0 (by omega); have c4 := k2 1 (by omega); have c5 := k2 2 (by omega)
            have c6 := k3 0 (by omega); have c7 := k3 1 (by omega); have c8 := k3 2 (by omega)
            have e0 := hv.out _ cap' _ hy'
            have v7 : Bys w7 g3 0 j pz := (tv.drew).below b7 (by omega)
            clear k1 k2 k3
            refine hK.out _ _ (by first | exact ⟨by simp [*], by simp [*], by simp [*], by simp [*], by simp [*], by simp [*], hv.out _ _ _ v7⟩) (fun hHeld => ?_)
            clear hK K
            try simp only [Act.put, List.setIfInBounds_toArray, List.set_cons_zero, List.set_cons_succ]
            refine wpAnyH_ready (rs := [24]) (by kernel_rfl) (by simp) ?_
            refine (AllReadyH.cons (o := ?o_56) ?ho_56 (fun K hK => ?st_56) AllReadyH.nil)
            case ho_56 => (simp only [List.getElem?_toArray, List.getElem?_cons_succ, List.getElem?_cons_zero]; exact rfl)
            go_simp
            refine hK.out _ _ (by first | exact ⟨by simp [*], by simp [*], by simp [*], by simp [*], by simp [*], by simp [*], hv.out _ _ _ v7⟩) (fun hHeld => ?_)
            clear hK K
            try simp only [Act.put, List.setIfInBounds_toArray, List.set_cons_zero, List.set_cons_succ]
            refine wpAnyH_take (i := 25) (oi := ?oi_24) (v := ?v_24) ?hi_24 ?hs_24 ?hf_24 ?hr_24 ?hQ_24 (Or.inl ⟨?hw_24, ?hy_24⟩) ?hS_24 ?hrest_24
            case hi_24 => (simp only [List.getElem?_toArray, List.getElem?_cons_succ, List.getElem?_cons_zero]; exact rfl)
            case hs_24 => kernel_rfl
            case hf_24 => kernel_rfl
            case hr_24 => kernel_rfl
            case hQ_24 => exact fun _ _ _ h => h
            case hw_24 => rfl
            case hS_24 => assumption
            case hy_24 => (intro w hSw; (try dsimp only at hSw); go_simp; try with_reducible rfl)
            try simp only [Act.put, List.setIfInBounds_toArray, List.set_cons_zero, List.set_cons_succ]
            refine wpAnyH_take (i := 26) (oi := ?oi_25) (v := ?v_25) ?hi_25 ?hs_25 ?hf_25 ?hr_25 ?hQ_25 (Or.inl ⟨?hw_25, ?hy_25⟩) ?hS_25 ?hrest_25
            case hi_25 => (simp only [List.getElem?_toArray, List.getElem?_cons_succ, List.getElem?_cons_zero]; exact rfl)
            case hs_25 => kernel_rfl
            case hf_25 => kernel_rfl
            case hr_25 => kernel_rfl
            case hQ_25 => exact fun _ _ _ h => h
            case hw_25 => rfl
            case hS_25 => assumption
            case hy_25 => (intro w hSw; (try dsimp only at hSw); go_simp; try with_reducible rfl)
            try simp only [Act.put, List.setIfInBounds_toArray, List.set_cons_zero, List.set_cons_succ]
            refine wpAnyH_take (i := 27) (oi := ?oi_26) (v := ?v_26) ?hi_26 ?hs_26 ?hf_26 ?hr_26 ?hQ_26 (Or.inl ⟨?hw_26, ?hy_26⟩) ?hS_26 ?hrest_26
            case hi_26 => (simp only [List.getElem?_toArray, List.getElem?_cons_succ, List.getElem?_cons_zero]; exact rfl)
            case hs_26 => kernel_rfl
            case hf_26 => kernel_rfl
            case hr_26 => kernel_rfl
            case hQ_26 => exact fun _ _ _ h => h
            case hw_26 => rfl
            case hS_26 => assumption
            case hy_26 => (intro w hSw; (try dsimp only at hSw); go_simp; try with_reducible rfl)
            try simp only [Act.put, List.setIfInBounds_toArray, List.set_cons_zero, List.set_cons_succ]
            refine wpAnyH_take (i := 28) (oi := ?oi_27) (v := ?v_27) ?hi_27 ?hs_27 ?hf_27 ?hr_27 ?hQ_27 (Or.inl ⟨?hw_27, ?hy_27⟩) ?hS_27 ?hrest_27
            case hi_27 => (simp only [List.getElem?_toArray, List.getElem?_cons_succ, List.getElem?_cons_zero]; exact rfl)
            case hs_27 => kernel_rfl
            case hf_27 => kernel_rfl
            case hr_27 => kernel_rfl
            case hQ_27 => exact fun _ _ _ h => h
            case hw_27 => rfl
            case hS_27 => assumption
            case hy_27 => (intro w hSw; (try dsimp only at hSw); go_simp; try with_reducible rfl)
            try simp only [Act.put, List.setIfInBounds_toArray, List.set_cons_zero, List.set_cons_succ]
            refine wpAnyH_done (by kernel_rfl) ?_ _
            refine NoPanic.normal ?_
            go_wp2
            go_ret
            exact ⟨rfl, by (repeat' (first | (with_reducible first | exact Below.refl _ _ | assumption | refine Below.alloc ?_ ?_ _ | refine Below.drew ?_ | refine below_drewN ?_ _ | refine Below.setCell ?_ ?_ _ | refine below_via (by with_reducible assumption) ?_ ?_) | omega | (simp only [szs]; omega) | (simp only [szs] at *; omega)))⟩
          · skip
            refine wp_region_noPanic ?_
            refine wp_region_held_drew (S := (fun w' => w'.cell? ⟨w.heap.size, 0, none⟩ = some (.int .u64 x) ∧ w'.cell? ⟨w.heap.size, 1, none⟩ = some (.int .u64 y) ∧ w'.cell? ⟨bx, 0, none⟩ = some (.int .u64 xx) ∧ w'.cell? ⟨bx, 1, none⟩ = some (.int .u64 xy) ∧ w'.cell? ⟨bt, 0, none⟩ = some (.int .u64 xx) ∧ w'.cell? ⟨bt, 1, none⟩ = some (.int .u64 xy) ∧ (convert 35 9 (.slice (some ⟨g3, 0, none⟩) j cap3)).run Tryd.prog w' = .ok (.string st) w')) (by kernel_rfl) (by first | exact ⟨a1, a2, x1, x2, y1, y2, hv.out _ _ _ tv.drew⟩) (fun hHeld => ?_)
            refine wpAnyH_take (i := 0) (oi := ?oi_28) (v := ?v_28) ?hi_28 ?hs_28 ?hf_28 ?hr_28 ?hQ_28 (Or.inl ⟨?hw_28, ?hy_28⟩) ?hS_28 ?hrest_28
            case hi_28 => (simp only [List.getElem?_toArray, List.getElem?_cons_succ, List.getElem?_cons_zero]; exact rfl)
            case hs_28 => kernel_rfl
            case hf_28 => kernel_rfl
            case hr_28 => kernel_rfl
            case hQ_28 => exact fun _ _ _ h => h
            case hw_28 => rfl
            case hS_28 => assumption
            case hy_28 => (intro w hSw; (try dsimp only at hSw); go_simp; try with_reducible rfl)
            try simp only [Act.put, List.setIfInBounds_toArray, List.set_cons_zero, List.set_cons_succ]
            refine wpAnyH_take (i := 1) (oi := ?oi_29) (v := ?v_29) ?hi_29 ?hs_29 ?hf_29 ?hr_29 ?hQ_29 (Or.inl ⟨?hw_29, ?hy_29⟩) ?hS_29 ?hrest_29
            case hi_29 => (simp only [List.getElem?_toArray, List.getElem?_cons_succ, List.getElem?_cons_zero]; exact rfl)
            case hs_29 => kernel_rfl
            case hf_29 => kernel_rfl
            case hr_29 => kernel_rfl
            case hQ_29 => exact fun _ _ _ h => h
            case hw_29 => rfl
            case hS_29 => assumption
            case hy_29 => (intro w hSw; (try dsimp only at hSw); go_simp; try with_reducible rfl)
            try simp only [Act.put, List.setIfInBounds_toArray, List.set_cons_zero, List.set_cons_succ]
            refine wpAnyH_take (i := 2) (oi := ?oi_30) (v := ?v_30) ?hi_30 ?hs_30 ?hf_30 ?hr_30 ?hQ_30 (Or.inl ⟨?hw_30, ?hy_30⟩) ?hS_30 ?hrest_30
            case hi_30 => (simp only [List.getElem?_toArray, List.getElem?_cons_succ, List.getElem?_cons_zero]; exact rfl)
            case hs_30 => kernel_rfl
            case hf_30 => kernel_rfl
            case hr_30 => kernel_rfl
            case hQ_30 => exact fun _ _ _ h => h
            case hw_30 => rfl
            case hS_30 => assumption
            case hy_30 => (intro w hSw; (try dsimp only at hSw); go_simp; try with_reducible rfl)
            try simp only [Act.put, List.setIfInBounds_toArray, List.set_cons_zero, List.set_cons_succ]
            refine wpAnyH_take (i := 3) (oi := ?oi_31) (v := ?v_31) ?hi_31 ?hs_31 ?hf_31 ?hr_31 ?hQ_31 (Or.inl ⟨?hw_31, ?hy_31⟩) ?hS_31 ?hrest_31
            case hi_31 => (simp only [List.getElem?_toArray, List.getElem?_cons_succ, List.getElem?_cons_zero]; exact rfl)
            case hs_31 => kernel_rfl
            case hf_31 => kernel_rfl
            case hr_31 => kernel_rfl
            case hQ_31 => exact fun _ _ _ h => h
            case hw_31 => rfl
            case hS_31 => assumption
            case hy_31 => (intro w hSw; (try dsimp only at hSw); go_simp; try with_reducible rfl)
            try simp only [Act.put, List.setIfInBounds_toArray, List.set_cons_zero, List.set_cons_succ]
            refine wpAnyH_take (i := 4) (oi := ?oi_32) (v := ?v_32) ?hi_32 ?hs_32 ?hf_32 ?hr_32 ?hQ_32 (Or.inl ⟨?hw_32, ?hy_32⟩) ?hS_32 ?hrest_32
            case hi_32 => (simp only [List.getElem?_toArray, List.getElem?_cons_succ, List.getElem?_cons_zero]; exact rfl)
            case hs_32 => kernel_rfl
            case hf_32 => kernel_rfl
            case hr_32 => kernel_rfl
            case hQ_32 => exact fun _ _ _ h => h
            case hw_32 => rfl
            case hS_32 => assumption
            case hy_32 => (intro w hSw; (try dsimp only at hSw); go_simp; try with_reducible rfl)
            try simp only [Act.put, List.setIfInBounds_toArray, List.set_cons_zero, List.set_cons_succ]
            refine wpAnyH_take (i := 5) (oi := ?oi_33) (v := ?v_33) ?hi_33 ?hs_33 ?hf_33 ?hr_33 ?hQ_33 (Or.inl ⟨?hw_33, ?hy_33⟩) ?hS_33 ?hrest_33
            case hi_33 => (simp only [List.getElem?_toArray, List.getElem?_cons_succ, List.getElem?_cons_zero]; exact rfl)
            case hs_33 => kernel_rfl
            case hf_33 => kernel_rfl
            case hr_33 => kernel_rfl
            case hQ_33 => exact fun _ _ _ h => h
            case hw_33 => rfl
            case hS_33 => assumption
            case hy_33 => (intro w hSw; (try dsimp only at hSw); go_simp; try with_reducible rfl)
            try simp only [Act.put, List.setIfInBounds_toArray, List.set_cons_zero, List.set_cons_succ]
            refine wpAnyH_take (i := 6) (oi := ?oi_34) (v := ?v_34) ?hi_34 ?hs_34 ?hf_34 ?hr_34 ?hQ_34 (Or.inl ⟨?hw_34, ?hy_34⟩) ?hS_34 ?hrest_34
            case hi_34 => (simp only [List.getElem?_toArray, List.getElem?_cons_succ, List.getElem?_cons_zero]; exact rfl)
            case hs_34 => kernel_rfl
            case hf_34 => kernel_rfl
            case hr_34 => kernel_rfl
            case hQ_34 => exact fun _ _ _ h => h
            case hw_34 => rfl
            case hS_34 => assumption
            case hy_34 => (intro w hSw; (try dsimp only at hSw); go_simp; try with_reducible rfl)
            try simp only [Act.put, List.setIfInBounds_toArray, List.set_cons_zero, List.set_cons_succ]
            refine wpAnyH_take (i := 7) (oi := ?oi_35) (v := ?v_35) ?hi_35 ?hs_35 ?hf_35 ?hr_35 ?hQ_35 (Or.inl ⟨?hw_35, ?hy_35⟩) ?hS_35 ?hrest_35
            case hi_35 => (simp only [List.getElem?_toArray, List.getElem?_cons_succ, List.getElem?_cons_zero]; exact rfl)
            case hs_35 => kernel_rfl
            case hf_35 => kernel_rfl
            case hr_35 => kernel_rfl
            case hQ_35 => exact fun _ _ _ h => h
            case hw_35 => rfl
            case hS_35 => assumption
            case hy_35 => (intro w hSw; (try dsimp only at hSw); go_simp; try with_reducible rfl)
            try simp only [Act.put, List.setIfInBounds_toArray, List.set_cons_zero, List.set_cons_succ]
            refine wpAnyH_take (i := 8) (oi := ?oi_36) (v := ?v_36) ?hi_36 ?hs_36 ?hf_36 ?hr_36 ?hQ_36 (Or.inl ⟨?hw_36, ?hy_36⟩) ?hS_36 ?hrest_36
            case hi_36 => (simp only [List.getElem?_toArray, List.getElem?_cons_succ, List.getElem?_cons_zero]; exact rfl)
            case hs_36 => kernel_rfl
            case hf_36 => kernel_rfl
            case hr_36 => kernel_rfl
            case hQ_36 => exact fun _ _ _ h => h
            case hw_36 => rfl
            case hS_36 => assumption
            case hy_36 => (intro w hSw; (try dsimp only at hSw); go_simp; try with_reducible rfl)
            try simp only [Act.put, List.setIfInBounds_toArray, List.set_cons_zero, List.set_cons_succ]
            refine wpAnyH_take (i := 9) (oi := ?oi_37) (v := ?v_37) ?hi_37 ?hs_37 ?hf_37 ?hr_37 ?hQ_37 (Or.inl ⟨?hw_37, ?hy_37⟩) ?hS_37 ?hrest_37
            case hi_37 => (simp only [List.getElem?_toArray, List.getElem?_cons_succ, List.getElem?_cons_zero]; exact rfl)
            case hs_37 => kernel_rfl
            case hf_37 => kernel_rfl
            case hr_37 => kernel_rfl
            case hQ_37 => exact fun _ _ _ h => h
            case hw_37 => rfl
            case hS_37 => assumption
            case hy_37 => (intro w hSw; (try dsimp only at hSw); go_simp; try with_reducible rfl)
            try simp only [Act.put, List.setIfInBounds_toArray, List.set_cons_zero, List.set_cons_succ]
            refine wpAnyH_take (i := 10) (oi := ?oi_38) (v := ?v_38) ?hi_38 ?hs_38 ?hf_38 ?hr_38 ?hQ_38 (Or.inl ⟨?hw_38, ?hy_38⟩) ?hS_38 ?hrest_38
            case hi_38 => (simp only [List.getElem?_toArray, List.getElem?_cons_succ, List.getElem?_cons_zero]; exact rfl)
            case hs_38 => kernel_rfl
            case hf_38 => kernel_rfl
            case hr_38 => kernel_rfl
            case hQ_38 => exact fun _ _ _ h => h
            case hw_38 => rfl
            case hS_38 => assumption
            case hy_38 => (intro w hSw; (try dsimp only at hSw); go_simp; try with_reducible rfl)
            try simp only [Act.put, List.setIfInBounds_toArray, List.set_cons_zero, List.set_cons_succ]
            refine wpAnyH_take (i := 11) (oi := ?oi_39) (v := ?v_39) ?hi_39 ?hs_39 ?hf_39 ?hr_39 ?hQ_39 (Or.inl ⟨?hw_39, ?hy_39⟩) ?hS_39 ?hrest_39
            case hi_39 => (simp only [List.getElem?_toArray, List.getElem?_cons_succ, List.getElem?_cons_zero]; exact rfl)
            case hs_39 => kernel_rfl
            case hf_39 => kernel_rfl
            case hr_39 => kernel_rfl
            case hQ_39 => exact fun _ _ _ h => h
            case hw_39 => rfl
            case hS_39 => assumption
            case hy_39 => (intro w hSw; (try dsimp only at hSw); go_simp; try with_reducible rfl)
            try simp only [Act.put, List.setIfInBounds_toArray, List.set_cons_zero, List.set_cons_succ]
            refine wpAnyH_take (i := 12) (oi := ?oi_40) (v := ?v_40) ?hi_40 ?hs_40 ?hf_40 ?hr_40 ?hQ_40 (Or.inl ⟨?hw_40, ?hy_40⟩) ?hS_40 ?hrest_40
            case hi_40 => (simp only [List.getElem?_toArray, List.getElem?_cons_succ, List.getElem?_cons_zero]; exact rfl)
            case hs_40 => kernel_rfl
            case hf_40 => kernel_rfl
            case hr_40 => kernel_rfl
            case hQ_40 => exact fun _ _ _ h => h
            case hw_40 => rfl
            case hS_40 => assumption
            case hy_40 => (intro w hSw; (try dsimp only at hSw); go_simp; try with_reducible rfl)
            try simp only [Act.put, List.setIfInBounds_toArray, List.set_cons_zero, List.set_cons_succ]
            refine wpAnyH_take (i := 13) (oi := ?oi_41) (v := ?v_41) ?hi_41 ?hs_41 ?hf_41 ?hr_41 ?hQ_41 (Or.inl ⟨?hw_41, ?hy_41⟩) ?hS_41 ?hrest_41
            case hi_41 => (simp only [List.getElem?_toArray, List.getElem?_cons_succ, List.getElem?_cons_zero]; exact rfl)
            case hs_41 => kernel_rfl
            case hf_41 => kernel_rfl
            case hr_41 => kernel_rfl
            case hQ_41 => exact fun _ _ _ h => h
            case hw_41 => rfl
            case hS_41 => assumption
            case hy_41 => (intro w hSw; (try dsimp only at hSw); go_simp; try with_reducible rfl)
            try simp only [Act.put, List.setIfInBounds_toArray, List.set_cons_zero, List.set_cons_succ]
            refine wpAnyH_take (i := 14) (oi := ?oi_42) (v := ?v_42) ?hi_42 ?hs_42 ?hf_42 ?hr_42 ?hQ_42 (Or.inl ⟨?hw_42, ?hy_42⟩) ?hS_42 ?hrest_42
            case hi_42 => (simp only [List.getElem?_toArray, List.getElem?_cons_succ, List.getElem?_cons_zero]; exact rfl)
            case hs_42 => kernel_rfl
            case hf_42 => kernel_rfl
            case hr_42 => kernel_rfl
            case hQ_42 => exact fun _ _ _ h => h
            case hw_42 => rfl
            case hS_42 => assumption
            case hy_42 => (intro w hSw; (try dsimp only at hSw); go_simp; try with_reducible rfl)
            try simp only [Act.put, List.setIfInBounds_toArray, List.set_cons_zero, List.set_cons_succ]
            refine wpAnyH_take (i := 15) (oi := ?oi_43) (v := ?v_43) ?hi_43 ?hs_43 ?hf_43 ?hr_43 ?hQ_43 (Or.inl ⟨?hw_43, ?hy_43⟩) ?hS_43 ?hrest_43
            case hi_43 => (simp only [List.getElem?_toArray, List.getElem?_cons_succ, List.getElem?_cons_zero]; exact rfl)
            case hs_43 => kernel_rfl
            case hf_43 => kernel_rfl
            case hr_43 => kernel_rfl
            case hQ_43 => exact fun _ _ _ h => h
            case hw_43 => rfl
            case hS_43 => assumption
            case hy_43 => (intro w hSw; (try dsimp only at hSw); go_simp; try with_reducible rfl)
            try simp only [Act.put, List.setIfInBounds_toArray, List.set_cons_zero, List.set_cons_succ]
            refine wpAnyH_take (i := 16) (oi := ?oi_44) (v := ?v_44) ?hi_44 ?hs_44 ?hf_44 ?hr_44 ?hQ_44 (Or.inl ⟨?hw_44, ?hy_44⟩) ?hS_44 ?hrest_44
            case hi_44 => (simp only [List.getElem?_toArray, List.getElem?_cons_succ, List.getElem?_cons_zero]; exact rfl)
            case hs_44 => kernel_rfl
            case hf_44 => kernel_rfl
            case hr_44 => kernel_rfl
            case hQ_44 => exact fun _ _ _ h => h
            case hw_44 => rfl
            case hS_44 => assumption
            case hy_44 => (intro w hSw; (try dsimp only at hSw); go_simp; try with_reducible rfl)
            try simp only [Act.put, List.setIfInBounds_toArray, List.set_cons_zero, List.set_cons_succ]
            refine wpAnyH_take (i := 17) (oi := ?oi_45) (v := ?v_45) ?hi_45 ?hs_45 ?hf_45 ?hr_45 ?hQ_45 (Or.inl ⟨?hw_45, ?hy_45⟩) ?hS_45 ?hrest_45
            case hi_45 => (simp only [List.getElem?_toArray, List.getElem?_cons_succ, List.getElem?_cons_zero]; exact rfl)
            case hs_45 => kernel_rfl
            case hf_45 => kernel_rfl
            case hr_45 => kernel_rfl
            case hQ_45 => exact fun _ _ _ h => h
            case hw_45 => rfl
            case hS_45 => assumption
            case hy_45 => (intro w hSw; (try dsimp only at hSw); go_simp; try with_reducible rfl)
            try simp only [Act.put, List.setIfInBounds_toArray, List.set_cons_zero, List.set_cons_succ]
            refine wpAnyH_take (i := 18) (oi := ?oi_46) (v := ?v_46) ?hi_46 ?hs_46 ?hf_46 ?hr_46 ?hQ_46 (Or.inl ⟨?hw_46, ?hy_46⟩) ?hS_46 ?hrest_46
            case hi_46 => (simp only [List.getElem?_toArray, List.getElem?_cons_succ, List.getElem?_cons_zero]; exact rfl)
            case hs_46 => kernel_rfl
            case hf_46 => kernel_rfl
            case hr_46 => kernel_rfl
            case hQ_46 => exact fun _ _ _ h => h
            case hw_46 => rfl
            case hS_46 => assumption
            case hy_46 => (intro w hSw; (try dsimp only at hSw); go_simp; try with_reducible rfl)
            try simp only [Act.put, List.setIfInBounds_toArray, List.set_cons_zero, List.set_cons_succ]
            refine wpAnyH_take (i := 19) (oi := ?oi_47) (v := ?v_47) ?hi_47 ?hs_47 ?hf_47 ?hr_47 ?hQ_47 (Or.inl ⟨?hw_47, ?hy_47⟩) ?hS_47 ?hrest_47
            case hi_47 => (simp only [List.getElem?_toArray, List.getElem?_cons_succ, List.getElem?_cons_zero]; exact rfl)
            case hs_47 => kernel_rfl
            case hf_47 => kernel_rfl
            case hr_47 => kernel_rfl
            case hQ_47 => exact fun _ _ _ h => h
            case hw_47 => rfl
            case hS_47 => assumption
            case hy_47 => (intro w hSw; (try dsimp only at hSw); go_simp; try with_reducible rfl)
            try simp only [Act.put, List.setIfInBounds_toArray, List.set_cons_zero, List.set_cons_succ]
            refine wpAnyH_take (i := 20) (oi := ?oi_48) (v := ?v_48) ?hi_48 ?hs_48 ?hf_48 ?hr_48 ?hQ_48 (Or.inl ⟨?hw_48, ?hy_48⟩) ?hS_48 ?hrest_48
            case hi_48 => (simp only [List.getElem?_toArray, List.getElem?_cons_succ, List.getElem?_cons_zero]; exact rfl)
            case hs_48 => kernel_rfl
            case hf_48 => kernel_rfl
            case hr_48 => kernel_rfl
            case hQ_48 => exact fun _ _ _ h => h
            case hw_48 => rfl
            case hS_48 => assumption
            case hy_48 => (intro w hSw; (try dsimp only at hSw); go_simp; try with_reducible rfl)
            try simp only [Act.put, List.setIfInBounds_toArray, List.set_cons_zero, List.set_cons_succ]
            refine wpAnyH_take (i := 21) (oi := ?oi_49) (v := ?v_49) ?hi_49 ?hs_49 ?hf_49 ?hr_49 ?hQ_49 (Or.inl ⟨?hw_49, ?hy_49⟩) ?hS_49 ?hrest_49
            case hi_49 => (simp only [List.getElem?_toArray, List.getElem?_cons_succ, List.getElem?_cons_zero]; exact rfl)
            case hs_49 => kernel_rfl
            case hf_49 => kernel_rfl
            case hr_49 => kernel_rfl
            case hQ_49 => exact fun _ _ _ h => h
            case hw_49 => rfl
            case hS_49 => assumption
            case hy_49 => (intro w hSw; (try dsimp only at hSw); go_simp; try with_reducible rfl)
            try simp only [Act.put, List.setIfInBounds_toArray, List.set_cons_zero, List.set_cons_succ]
            refine wpAnyH_take (i := 22) (oi := ?oi_50) (v := ?v_50) ?hi_50 ?hs_50 ?hf_50 ?hr_50 ?hQ_50 (Or.inl ⟨?hw_50, ?hy_50⟩) ?hS_50 ?hrest_50
            case hi_50 => (simp only [List.getElem?_toArray, List.getElem?_cons_succ, List.getElem?_cons_zero]; exact rfl)
            case hs_50 => kernel_rfl
            case hf_50 => kernel_rfl
            case hr_50 => kernel_rfl
            case hQ_50 => exact fun _ _ _ h => h
            case hw_50 => rfl
            case hS_50 => assumption
            case hy_50 => (intro w hSw; (try dsimp only at hSw); go_simp; try with_reducible rfl)
            try simp only [Act.put, List.setIfInBounds_toArray, List.set_cons_zero, List.set_cons_succ]
            refine wpAnyH_ready (rs := [23]) (by kernel_rfl) (by simp) ?_
            refine (AllReadyH.cons (o := ?o_57) ?ho_57 (fun K hK => ?st_57) AllReadyH.nil)
            case ho_57 => (simp only [List.getElem?_toArray, List.getElem?_cons_succ, List.getElem?_cons_zero]; exact rfl)
            go_simp
            (go_at_call 13; (with_reducible refine Calls.mono (rb _) ?_); rintro e w7 ⟨g', cap', rfl, hg', hy', b7⟩)
            have z7 := b7.size
            simp only [World.size_drew] at z7 b7
            have k1 := (bcell b7).1 w.heap.size
            have k2 := (bcell b7).1 bx
            have k3 := (bcell b7).1 bt
            have c0 := k1 0 (by omega); have c1 := k1 1 (by omega); have c2 := k1 2 (by omega)
            have c3 := k2 0 (by omega); have c4 := k2 1 (by omega); have c5 := k2 2 (by omega)
            have c6 := k3 0 (by omega); have c7 := k3 1 (by omega); have c8 := k3 2 (by omega)
            have e0 := hv.out _ cap' _ hy'
            have v7 : Bys w7 g3 0 j pz := (tv.drew).below b7 (by omega)
            clear k1 k2 k3
            refine hK.out _ _ (by first | exact ⟨by simp [*], by simp [*], by simp [*], by simp [*], by simp [*], by simp [*], hv.out _ _ _ v7⟩) (fun hHeld => ?_)
            clear hK K
            try simp only [Act.put, List.setIfInBounds_toArray, List.set_cons_zero, List.set_cons_succ]
            refine wpAnyH_ready (rs := [24]) (by kernel_rfl) (by simp) ?_
            refine (AllReadyH.cons (o := ?o_58) ?ho_58 (fun K hK => ?st_58) AllReadyH.nil)
            case ho_58 => (simp only [List.getElem?_toArray, List.getElem?_cons_succ, List.getElem?_cons_zero]; exact rfl)
            go_simp
            refine hK.out _ _ (by first | exact ⟨by simp [*], by simp [*], by simp [*], by simp [*], by simp [*], by simp [*], hv.out _ _ _ v7⟩) (fun hHeld => ?_)
            clear hK K
            try simp only [Act.put, List.setIfInBounds_toArray, List.set_cons_zero, List.set_cons_succ]
            refine wpAnyH_take (i := 25) (oi := ?oi_51) (v := ?v_51) ?hi_51 ?hs_51 ?hf_51 ?hr_51 ?hQ_51 (Or.inl ⟨?hw_51, ?hy_51⟩) ?hS_51 ?hrest_51
            case hi_51 => (simp only [List.getElem?_toArray, List.getElem?_cons_succ, List.getElem?_cons_zero]; exact rfl)
            case hs_51 => kernel_rfl
            case hf_51 => kernel_rfl
            case hr_51 => kernel_rfl
            case hQ_51 => exact fun _ _ _ h => h
            case hw_51 => rfl
            case hS_51 => assumption
            case hy_51 => (intro w hSw; (try dsimp only at hSw); go_simp; try with_reducible rfl)
            try simp only [Act.put, List.setIfInBounds_toArray, List.set_cons_zero, List.set_cons_succ]
            refine wpAnyH_take (i := 26) (oi := ?oi_52) (v := ?v_52) ?hi_52 ?hs_52 ?hf_52 ?hr_52 ?hQ_52 (Or.inl ⟨?hw_52, ?hy_52⟩) ?hS_52 ?hrest_52
            case hi_52 => (simp only [List.getElem?_toArray, List.getElem?_cons_succ, List.getElem?_cons_zero]; exact rfl)
            case hs_52 => kernel_rfl
            case hf_52 => kernel_rfl
            case hr_52 => kernel_rfl
            case hQ_52 => exact fun _ _ _ h => h
            case hw_52 => rfl
            case hS_52 => assumption
            case hy_52 => (intro w hSw; (try dsimp only at hSw); go_simp; try with_reducible rfl)
            try simp only [Act.put, List.setIfInBounds_toArray, List.set_cons_zero, List.set_cons_succ]
            refine wpAnyH_take (i := 27) (oi := ?oi_53) (v := ?v_53) ?hi_53 ?hs_53 ?hf_53 ?hr_53 ?hQ_53 (Or.inl ⟨?hw_53, ?hy_53⟩) ?hS_53 ?hrest_53
            case hi_53 => (simp only [List.getElem?_toArray, List.getElem?_cons_succ, List.getElem?_cons_zero]; exact rfl)
            case hs_53 => kernel_rfl
            case hf_53 => kernel_rfl
            case hr_53 => kernel_rfl
            case hQ_53 => exact fun _ _ _ h => h
            case hw_53 => rfl
            case hS_53 => assumption
            case hy_53 => (intro w hSw; (try dsimp only at hSw); go_simp; try with_reducible rfl)
            try simp only [Act.put, List.setIfInBounds_toArray, List.set_cons_zero, List.set_cons_succ]
            refine wpAnyH_take (i := 28) (oi := ?oi_54) (v := ?v_54) ?hi_54 ?hs_54 ?hf_54 ?hr_54 ?hQ_54 (Or.inl ⟨?hw_54, ?hy_54⟩) ?hS_54 ?hrest_54
            case hi_54 => (simp only [List.getElem?_toArray, List.getElem?_cons_succ, List.getElem?_cons_zero]; exact rfl)
            case hs_54 => kernel_rfl
            case hf_54 => kernel_rfl
            case hr_54 => kernel_rfl
            case hQ_54 => exact fun _ _ _ h => h
            case hw_54 => rfl
            case hS_54 => assumption
            case hy_54 => (intro w hSw; (try dsimp only at hSw); go_simp; try with_reducible rfl)
            try simp only [Act.put, List.setIfInBounds_toArray, List.set_cons_zero, List.set_cons_succ]
            refine wpAnyH_done (by kernel_rfl) ?_ _
            refine NoPanic.normal ?_
            go_wp2
            go_ret
            exact ⟨rfl, by (repeat' (first | (with_reducible first | exact Below.refl _ _ | assumption | refine Below.alloc ?_ ?_ _ | refine Below.drew ?_ | refine below_drewN ?_ _ | refine Below.setCell ?_ ?_ _ | refine below_via (by with_reducible assumption) ?_ ?_) | omega | (simp only [szs]; omega) | (simp only [szs] at *; omega)))⟩
end Go.Proofs.YtoigpjaffggekabDoor
