/-
  The walk of layer 7's statement on what stays: no point, and bytes.
-/
import Derived.Test.YtoigpjaffggekabDoorUpD
import Derived.Test.YtoigpjaffggekabDoorLaw07e
import Derived.Test.YtoigpjaffggekabDoorEdC
import Derived.Test.YtoigpjaffggekabDoorRefY
import Derived.Deep.AppendLies
import Derived.Laws.OwnMore
import Derived.Deep.DeepCutAuto
namespace Go.Proofs.YtoigpjaffggekabDoor
open Go.RowKit Go.Proofs
set_option linter.unusedVariables false
set_option linter.unusedSimpArgs false
attribute [local go_sem ↓] Go.wp_at_zero Go.wp_at_succ
attribute [local go_sem] equal_same

set_option maxHeartbeats 4000000 in
set_option maxRecDepth 8000 in
theorem stays_no (x y : Int) (b off len cap : Nat) (z : Nat → Nat) (hz : ∀ i, z i < 256) (xx xy : Int) (fv : Value) (w : World) (hlen : 0 < len) (hcap : len ≤ cap) (hreach : cap ≤ 140737488351232) (hY : Bys w b off len z) (hfv : fv = .nilIface ∨ fv = .iface 49 (.int .i64 3))
   (cw : ∀ w, Calls Tryd.prog 12 #[.agg #[.int .u64 x, .int .u64 y]] w fun e w' => e = .returned (.tuple #[.slice none 0 0, .iface 49 (.int .i64 1)]) ∧ Below w.heap.size w w')
   (cr : ∀ (b' off' cap' : Nat) (w1 : World), Below w.heap.size w w1 → Bys w1 b' off' len z → len ≤ cap' → Calls Tryd.prog 11 #[.slice (some ⟨b', off', none⟩) len cap'] w1 fun e w' => e = .returned (.tuple #[.agg #[.int .u64 xx, .int .u64 xy], fv]) ∧ Below w1.heap.size w1 w') :
    Calls Tryd.prog 4 #[.agg #[.int .u64 x, .int .u64 y], .slice (some ⟨b, off, none⟩) len cap] w fun e w' => e = .returned (.bool true) ∧ Below w.heap.size w w' := by
  have cu := upW
  obtain ⟨i0, hi, hz1, hz2, hz0⟩ := byteInfo
  go_enter Tryd.func4, Tryd.ntmps4
  go_upto_region 2 with (first | (go_at_call 5; first | (with_reducible refine (cu _).mono ?_; rintro e w_cu ⟨rfl, b_cu⟩; have z_cu := b_cu.size; (try simp only [szs] at z_cu))))
  have ta : Two w_cu w.heap.size (.int .u64 x) (.int .u64 y) := by (repeat' (first | (with_reducible first | assumption | exact Two.own (by with_reducible assumption) | refine Two.set ?_ _ _ | refine Own2.set ?_ _ _ | refine Two.drew ?_ | refine Two.drewN ?_ _ | refine Own2.drew ?_ | refine Own2.drewN ?_ _ | (refine Two.new ?_; simp only [szs]; done) | (refine Own2.new ?_; simp only [szs]; done) | refine Two.alloc ?_ _ | refine Own2.alloc ?_ _ | refine Two.far ?_ ?_ _ _ | refine Own2.far ?_ ?_ _ _ | refine Two.via (by with_reducible assumption) ?_ ?_ | refine Own2.via (by with_reducible assumption) ?_ ?_) | omega | (simp only [szs]; omega)))
  have hB : Below w.heap.size w w_cu := by (repeat' (first | (with_reducible first | exact Below.refl _ _ | assumption | refine Below.alloc ?_ ?_ _ | refine Below.drew ?_ | refine below_drewN ?_ _ | refine Below.setCell ?_ ?_ _ | refine below_via (by with_reducible assumption) ?_ ?_) | omega | (simp only [szs]; omega) | (simp only [szs] at *; omega)))
  have hown0 : (w_cu.alloc (.cells #[] 5)).ownsRow w_cu.heap.size 5 1 (.slice (some ⟨w_cu.heap.size, 0, none⟩) 0 0) 0 [] := World.ownsRow_made w_cu #[] 0 (Nat.le_refl _) (by decide) rfl
  have hY0 : Bys (w_cu.alloc (.cells #[] 5)) b off len z := (hY.below hB hY.lt).alloc _
  go_upto_region 3 with (at_builtin; refine wpList_append_lies _ rfl _ _ 35 rfl w_cu.heap.size 5 i0 _ 1 1 Tryd.underlying35 hi hz0 hz1 hz2 rfl (by decide) _ 0 [] rfl hown0 ⟨b, off, none⟩ len cap (vals z len) rfl (by simp [vals]) (bys_news hY0) (vals_one z len) hlen (by unfold maxLen; omega) (by omega) (by simp) (w_cu.heap.size + 1) (by simp) ?_; intro g ocap w1 hown1 hgrow hat hlt)
  have hgl := (hown1.lt g rfl).1
  have hbw : Below w_cu.heap.size w_cu w1 := ((Below.refl _ _).alloc (Nat.le_refl _) _).grown hgrow (by simp) (fun k h => by cases h; exact Nat.le_refl _)
  rw [Nat.zero_add, List.nil_append] at hown1
  have yo : Bys w1 g 0 len z := bys_of_row hown1
  have fo := free_of_row hown1
  have hoc := (cap_of_row hown1).1
  have ta1 : Two w1 w.heap.size (.int .u64 x) (.int .u64 y) := ta.below hbw ta.lt
  have hB1 : Below w.heap.size w w1 := hB.trans (hbw.mono hB.size)
  have lA : w.heap.size < g := Nat.lt_of_lt_of_le ta.lt hgl
  clear hown0 hown1 hgrow hat hY0 ta hB hbw b_cu z_cu cu hgl
  have c1 := fun w' (hb : Below w.heap.size w w') (h : Bys w' g 0 len z) => cr g 0 ocap w' hb h hoc
  go_upto_region 4 with (go_at_call 11; (with_reducible refine Calls.mono (c1 _ hB1 yo) ?_); rintro e w_c1 ⟨rfl, b_c1⟩)
  have z_c1 := b_c1.size
  have ta : Two (w_c1.alloc (.cells #[.int .u64 xx, .int .u64 xy] 24)) w.heap.size (.int .u64 x) (.int .u64 y) := by have := ta1.lt; (repeat' (first | (with_reducible first | assumption | exact Two.own (by with_reducible assumption) | refine Two.set ?_ _ _ | refine Own2.set ?_ _ _ | refine Two.drew ?_ | refine Two.drewN ?_ _ | refine Own2.drew ?_ | refine Own2.drewN ?_ _ | (refine Two.new ?_; simp only [szs]; done) | (refine Own2.new ?_; simp only [szs]; done) | refine Two.alloc ?_ _ | refine Own2.alloc ?_ _ | refine Two.far ?_ ?_ _ _ | refine Own2.far ?_ ?_ _ _ | refine Two.via (by with_reducible assumption) ?_ ?_ | refine Own2.via (by with_reducible assumption) ?_ ?_) | omega | (simp only [szs]; omega)))
  have tx : Two (w_c1.alloc (.cells #[.int .u64 xx, .int .u64 xy] 24)) w_c1.heap.size (.int .u64 xx) (.int .u64 xy) := by (repeat' (first | (with_reducible first | assumption | exact Two.own (by with_reducible assumption) | refine Two.set ?_ _ _ | refine Own2.set ?_ _ _ | refine Two.drew ?_ | refine Two.drewN ?_ _ | refine Own2.drew ?_ | refine Own2.drewN ?_ _ | (refine Two.new ?_; simp only [szs]; done) | (refine Own2.new ?_; simp only [szs]; done) | refine Two.alloc ?_ _ | refine Own2.alloc ?_ _ | refine Two.far ?_ ?_ _ _ | refine Own2.far ?_ ?_ _ _ | refine Two.via (by with_reducible assumption) ?_ ?_ | refine Own2.via (by with_reducible assumption) ?_ ?_) | omega | (simp only [szs]; omega)))
  have yo4 : Bys (w_c1.alloc (.cells #[.int .u64 xx, .int .u64 xy] 24)) g 0 len z := (yo.below b_c1 yo.lt).alloc _
  have hB4 : Below w.heap.size w (w_c1.alloc (.cells #[.int .u64 xx, .int .u64 xy] 24)) := by have := hB1.size; (repeat' (first | (with_reducible first | exact Below.refl _ _ | assumption | refine Below.alloc ?_ ?_ _ | refine Below.drew ?_ | refine below_drewN ?_ _ | refine Below.setCell ?_ ?_ _ | refine below_via (by with_reducible assumption) ?_ ?_) | omega | (simp only [szs]; omega) | (simp only [szs] at *; omega)))
  have fo4 : ∀ o, (w_c1.alloc (.cells #[.int .u64 xx, .int .u64 xy] 24)).frozen? ⟨g, o, none⟩ = false := fun o => by
    rw [(bcell ((Below.refl w_c1.heap.size w_c1).alloc (Nat.le_refl _) _)).2 g o (by omega), (bcell b_c1).2 g o hlt]
    exact fo o
  have lx : g < w_c1.heap.size := by omega
  have yb4 := hY.below hB4 hY.lt
  generalize w_c1.alloc (.cells #[.int .u64 xx, .int .u64 xy] 24) = w4 at ta tx yo4 yb4 hB4 fo4 ⊢
  generalize w_c1.heap.size = bx at tx lx ⊢
  clear c1 yo fo ta1 hB1 b_c1 z_c1 hlt
  have e1 := bys_str g 0 len ocap z w4 yo4
  have e2 := bys_str b off len cap z w4 yb4
  generalize strOfNums (nums z len) = s at e1 e2
  have lb := hY.lt
  go_wp2
  have wo := Wby.of_bys hz yo4 fo4
  have lA' := Nat.ne_of_gt lA
  have lx' := Nat.ne_of_lt lx
  clear e1 e2 yo4 fo4 yb4
  go_loopw [10] (fun si wr => ∃ k : Nat, k ≤ len ∧ si = .int .i64 k ∧ Two wr w.heap.size (.int .u64 x) (.int .u64 y) ∧ Two wr bx (.int .u64 xx) (.int .u64 xy) ∧ Wby wr g len ∧ Below w.heap.size w wr) (fun si _ => len - (intOf si).toNat)
  case atStart => exact ⟨0, by omega, rfl, ta, tx, wo, hB4⟩
  case round =>
    obtain ⟨k, hk, rfl, ra, rx, ro, rB⟩ := hrel
    clear ta tx wo hB4
    by_cases hlt : k < len
    · obtain ⟨v, hv, hc⟩ := ro.at_ k hlt
      have hf := ro.free k
      have hw := wrap_succ v
      go_wp2
      go_roundw
      case rel => exact ⟨k + 1, by omega, by go_num, ra.far lA' _ _, rx.far lx' _ _, ro.set _ (Nat.mod_lt _ (by decide)) hlt, rB.setCell (Nat.le_of_lt lA) _⟩
      case measure => simp [intOf]; omega
    · obtain rfl : k = len := by omega
      clear lA lx lA' lx' ro
      have c2 := fun w1 (h : Below w.heap.size w w1) => cr b off cap w1 h (hY.below h hY.lt) hcap
      have ⟨ta0, ta1, fa0, fa1, la⟩ := ra
      have lx := rx.lt
      go_upto_region 10 with (go_at_call 12; (with_reducible refine Calls.mono (cw _) ?_); rintro e w_cw ⟨rfl, b_cw⟩)
      have sa : Two w_cw w.heap.size (.int .u64 x) (.int .u64 y) := ra.below b_cw ra.lt
      have sx : Two w_cw bx (.int .u64 xx) (.int .u64 xy) := rx.below b_cw rx.lt
      have sB : Below w.heap.size w w_cw := rB.trans (b_cw.mono rB.size)
      clear ra rx rB ta0 ta1 fa0 fa1 la lx b_cw
      go_wp2
      go_loopw [13] (fun si wr => si = .int .i64 0 ∧ Two wr w.heap.size (.int .u64 x) (.int .u64 y) ∧ Two wr bx (.int .u64 xx) (.int .u64 xy) ∧ Below w.heap.size w wr) (fun _ _ => 0)
      case atStart => exact ⟨rfl, sa, sx, sB⟩
      case round =>
        obtain ⟨rfl, ra, rx, rB⟩ := hrel
        clear sa sx sB
        have ⟨ta0, ta1, fa0, fa1, la⟩ := ra
        have lx := rx.lt
        go_upto_region 15 with (go_at_call 12; (with_reducible refine Calls.mono (cw _) ?_); rintro e w_cv ⟨rfl, b_cv⟩)
        have sx : Two w_cv bx (.int .u64 xx) (.int .u64 xy) := rx.below b_cv rx.lt
        have sB : Below w.heap.size w w_cv := rB.trans (b_cv.mono rB.size)
        clear ra rx rB ta0 ta1 fa0 fa1 la lx b_cv cw
        go_upto_region 16 with (go_at_call 11; (with_reducible refine Calls.mono (c2 _ sB) ?_); rintro e w_c2 ⟨rfl, b_c2⟩)
        have z_c2 := b_c2.size
        have tx : Two (w_c2.alloc (.cells #[.int .u64 xx, .int .u64 xy] 24)) bx (.int .u64 xx) (.int .u64 xy) := (sx.below b_c2 sx.lt).alloc _
        have ty : Two (w_c2.alloc (.cells #[.int .u64 xx, .int .u64 xy] 24)) w_c2.heap.size (.int .u64 xx) (.int .u64 xy) := Two.new rfl
        have hB : Below w.heap.size w (w_c2.alloc (.cells #[.int .u64 xx, .int .u64 xy] 24)) := by have := sB.size; (repeat' (first | (with_reducible first | exact Below.refl _ _ | assumption | refine Below.alloc ?_ ?_ _ | refine Below.drew ?_ | refine below_drewN ?_ _ | refine Below.setCell ?_ ?_ _ | refine below_via (by with_reducible assumption) ?_ ?_) | omega | (simp only [szs]; omega) | (simp only [szs] at *; omega)))
        generalize w_c2.alloc (.cells #[.int .u64 xx, .int .u64 xy] 24) = w6 at tx ty hB ⊢
        generalize w_c2.heap.size = bt at ty ⊢
        clear sx sB b_c2 z_c2 c2
        have ⟨x1, x2, x3, x4, x5⟩ := tx
        have ⟨y1, y2, y3, y4, y5⟩ := ty
        rcases hfv with rfl | rfl
        all_goals
          go_quiet (fail)
          go_wp2
          go_ret
          exact ⟨rfl, by (repeat' (first | (with_reducible first | exact Below.refl _ _ | assumption | refine Below.alloc ?_ ?_ _ | refine Below.drew ?_ | refine below_drewN ?_ _ | refine Below.setCell ?_ ?_ _ | refine below_via (by with_reducible assumption) ?_ ?_) | omega | (simp only [szs]; omega) | (simp only [szs] at *; omega)))⟩
end Go.Proofs.YtoigpjaffggekabDoor
