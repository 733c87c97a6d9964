/-
  The walk of layer 3's statement on what stays: no point, and bytes.
-/
import Derived.Test.YtcgbemnmebgmjabUpC
import Derived.Test.YtcgbemnmebgmjabEqPt
import Derived.Test.YtcgbemnmebgmjabRefR
import Derived.Deep.DeepCutAuto
namespace Go.Proofs.Ytcgbemnmebgmjab
open Go.RowKit Go.Proofs
set_option linter.unusedVariables false
set_option linter.unusedSimpArgs false
attribute [local go_sem ↓] Go.wp_at_zero Go.wp_at_succ
attribute [local go_sem] equal_Pt

set_option maxHeartbeats 4000000 in
set_option maxRecDepth 8000 in
theorem stays_no (i : Bool) (x y : Int) (b off len cap : Nat) (z : Nat → Nat) (hz : ∀ i, z i < 256) (xi : Bool) (xx xy : Int) (fv : Value) (w : World) (hlen : 0 < len) (hcap : len ≤ cap) (hreach : cap ≤ 140737488351232) (hY : Bys w b off len z) (hfv : fv = .nilIface ∨ fv = .iface 40 (.int .i64 3))
   (cw : ∀ w, Calls Try.prog 6 #[.agg #[.bool i, .int .u64 x, .int .u64 y]] w fun e w' => e = .returned (.tuple #[.slice none 0 0, .iface 40 (.int .i64 1)]) ∧ Below w.heap.size w w')
   (cr : ∀ (b' off' cap' : Nat) (w1 : World), Bys w1 b' off' len z → len ≤ cap' → Calls Try.prog 5 #[.slice (some ⟨b', off', none⟩) len cap'] w1 fun e w' => e = .returned (.tuple #[.agg #[.bool xi, .int .u64 xx, .int .u64 xy], fv]) ∧ Below w1.heap.size w1 w') :
    Calls Try.prog 3 #[.agg #[.bool i, .int .u64 x, .int .u64 y], .slice (some ⟨b, off, none⟩) len cap] w fun e w' => e = .returned (.bool true) ∧ Below w.heap.size w w' := by
  have cu := upW
  obtain ⟨i0, hi, hz1, hz2, hz0⟩ := byteInfo
  go_enter Try.func3, Try.ntmps3
  go_upto_region 2 with (first | (go_at_call 4; first | (with_reducible refine (cu _).mono ?_; rintro e w_cu ⟨rfl, b_cu⟩; have z_cu := b_cu.size; (try simp only [World.size_alloc, World.size_setCell, World.size_drew, size_drewN] at z_cu))))
  have ta : Three w_cu w.heap.size (.bool i) (.int .u64 x) (.int .u64 y) := by (repeat' (first | (with_reducible assumption) | (with_reducible exact Three.own (by with_reducible assumption)) | (with_reducible refine Three.set ?_ _ _ _) | (with_reducible refine Own3.set ?_ _ _ _) | (with_reducible refine Three.drew ?_) | (with_reducible refine Three.drewN ?_ _) | (with_reducible refine Own3.drew ?_) | (with_reducible refine Own3.drewN ?_ _) | (with_reducible refine Three.new ?_; simp only [World.size_alloc, World.size_setCell, World.size_drew, size_drewN]; done) | (with_reducible refine Own3.new ?_; simp only [World.size_alloc, World.size_setCell, World.size_drew, size_drewN]; done) | (with_reducible refine Three.alloc ?_ _) | (with_reducible refine Own3.alloc ?_ _) | (with_reducible refine Three.far ?_ ?_ _ _) | (with_reducible refine Own3.far ?_ ?_ _ _) | (with_reducible refine Three.via (by with_reducible assumption) ?_ ?_) | (with_reducible refine Own3.via (by with_reducible assumption) ?_ ?_) | omega | (simp only [World.size_alloc, World.size_setCell, World.size_drew, size_drewN]; omega)))
  have hB : Below w.heap.size w w_cu := by (repeat' (first | (with_reducible exact Below.refl _ _) | (with_reducible assumption) | (with_reducible refine Below.alloc ?_ ?_ _) | (with_reducible refine Below.drew ?_) | (with_reducible refine below_drewN ?_ _) | (with_reducible refine Below.setCell ?_ ?_ _) | (with_reducible refine below_via (by with_reducible assumption) ?_ ?_) | omega | (simp only [World.size_alloc, World.size_setCell, World.size_drew, size_drewN]; omega) | (simp only [World.size_alloc, World.size_setCell, World.size_drew, size_drewN] at *; omega)))
  have hown0 : (w_cu.alloc (.cells #[] 5)).ownsRow w_cu.heap.size 5 1 (.slice (some ⟨w_cu.heap.size, 0, none⟩) 0 0) 0 [] := World.ownsRow_made w_cu #[] 0 (Nat.le_refl _) (by decide) rfl
  have hY0 : Bys (w_cu.alloc (.cells #[] 5)) b off len z := (hY.below hB hY.lt).alloc _
  go_upto_region 3 with (at_builtin; refine wpList_append_lies _ rfl _ _ 25 rfl w_cu.heap.size 5 i0 _ 1 1 Try.underlying25 hi hz0 hz1 hz2 rfl (by decide) _ 0 [] rfl hown0 ⟨b, off, none⟩ len cap (vals z len) rfl (by simp [vals]) (bys_news hY0) (vals_one z len) hlen (by unfold maxLen; omega) (by omega) (by simp) (w_cu.heap.size + 1) (by simp) ?_; intro g ocap w1 hown1 hgrow hat hlt)
  have hgl := (hown1.lt g rfl).1
  have hbw : Below w_cu.heap.size w_cu w1 := ((Below.refl _ _).alloc (Nat.le_refl _) _).grown hgrow (by simp) (fun k h => by cases h; exact Nat.le_refl _)
  rw [Nat.zero_add, List.nil_append] at hown1
  have yo : Bys w1 g 0 len z := bys_of_row hown1
  have fo := free_of_row hown1
  have hoc := (cap_of_row hown1).1
  have ta1 : Three w1 w.heap.size (.bool i) (.int .u64 x) (.int .u64 y) := ta.below hbw ta.lt
  have hB1 : Below w.heap.size w w1 := hB.trans (hbw.mono hB.size)
  have lA : w.heap.size < g := Nat.lt_of_lt_of_le ta.lt hgl
  clear hown0 hown1 hgrow hat hY0 ta hB hbw b_cu z_cu cu hgl
  have c1 := fun w' (h : Bys w' g 0 len z) => cr g 0 ocap w' h hoc
  go_upto_region 4 with (go_at_call 5; (with_reducible refine Calls.mono (c1 _ yo) ?_); rintro e w_c1 ⟨rfl, b_c1⟩)
  have z_c1 := b_c1.size
  have ta : Three (w_c1.alloc (.cells #[.bool xi, .int .u64 xx, .int .u64 xy] 24)) w.heap.size (.bool i) (.int .u64 x) (.int .u64 y) := by have := ta1.lt; (repeat' (first | (with_reducible assumption) | (with_reducible exact Three.own (by with_reducible assumption)) | (with_reducible refine Three.set ?_ _ _ _) | (with_reducible refine Own3.set ?_ _ _ _) | (with_reducible refine Three.drew ?_) | (with_reducible refine Three.drewN ?_ _) | (with_reducible refine Own3.drew ?_) | (with_reducible refine Own3.drewN ?_ _) | (with_reducible refine Three.new ?_; simp only [World.size_alloc, World.size_setCell, World.size_drew, size_drewN]; done) | (with_reducible refine Own3.new ?_; simp only [World.size_alloc, World.size_setCell, World.size_drew, size_drewN]; done) | (with_reducible refine Three.alloc ?_ _) | (with_reducible refine Own3.alloc ?_ _) | (with_reducible refine Three.far ?_ ?_ _ _) | (with_reducible refine Own3.far ?_ ?_ _ _) | (with_reducible refine Three.via (by with_reducible assumption) ?_ ?_) | (with_reducible refine Own3.via (by with_reducible assumption) ?_ ?_) | omega | (simp only [World.size_alloc, World.size_setCell, World.size_drew, size_drewN]; omega)))
  have tx : Three (w_c1.alloc (.cells #[.bool xi, .int .u64 xx, .int .u64 xy] 24)) w_c1.heap.size (.bool xi) (.int .u64 xx) (.int .u64 xy) := by (repeat' (first | (with_reducible assumption) | (with_reducible exact Three.own (by with_reducible assumption)) | (with_reducible refine Three.set ?_ _ _ _) | (with_reducible refine Own3.set ?_ _ _ _) | (with_reducible refine Three.drew ?_) | (with_reducible refine Three.drewN ?_ _) | (with_reducible refine Own3.drew ?_) | (with_reducible refine Own3.drewN ?_ _) | (with_reducible refine Three.new ?_; simp only [World.size_alloc, World.size_setCell, World.size_drew, size_drewN]; done) | (with_reducible refine Own3.new ?_; simp only [World.size_alloc, World.size_setCell, World.size_drew, size_drewN]; done) | (with_reducible refine Three.alloc ?_ _) | (with_reducible refine Own3.alloc ?_ _) | (with_reducible refine Three.far ?_ ?_ _ _) | (with_reducible refine Own3.far ?_ ?_ _ _) | (with_reducible refine Three.via (by with_reducible assumption) ?_ ?_) | (with_reducible refine Own3.via (by with_reducible assumption) ?_ ?_) | omega | (simp only [World.size_alloc, World.size_setCell, World.size_drew, size_drewN]; omega)))
  have yo4 : Bys (w_c1.alloc (.cells #[.bool xi, .int .u64 xx, .int .u64 xy] 24)) g 0 len z := (yo.below b_c1 yo.lt).alloc _
  have hB4 : Below w.heap.size w (w_c1.alloc (.cells #[.bool xi, .int .u64 xx, .int .u64 xy] 24)) := by have := hB1.size; (repeat' (first | (with_reducible exact Below.refl _ _) | (with_reducible assumption) | (with_reducible refine Below.alloc ?_ ?_ _) | (with_reducible refine Below.drew ?_) | (with_reducible refine below_drewN ?_ _) | (with_reducible refine Below.setCell ?_ ?_ _) | (with_reducible refine below_via (by with_reducible assumption) ?_ ?_) | omega | (simp only [World.size_alloc, World.size_setCell, World.size_drew, size_drewN]; omega) | (simp only [World.size_alloc, World.size_setCell, World.size_drew, size_drewN] at *; omega)))
  have fo4 : ∀ o, (w_c1.alloc (.cells #[.bool xi, .int .u64 xx, .int .u64 xy] 24)).frozen? ⟨g, o, none⟩ = false := fun o => by
    rw [(bcell ((Below.refl w_c1.heap.size w_c1).alloc (Nat.le_refl _) _)).2 g o (by omega), (bcell b_c1).2 g o hlt]
    exact fo o
  have lx : g < w_c1.heap.size := by omega
  have yb4 := hY.below hB4 hY.lt
  generalize w_c1.alloc (.cells #[.bool xi, .int .u64 xx, .int .u64 xy] 24) = w4 at ta tx yo4 yb4 hB4 fo4 ⊢
  generalize w_c1.heap.size = bx at tx lx ⊢
  clear c1 yo fo ta1 hB1 b_c1 z_c1 hlt
  have e1 := bys_str g 0 len ocap z w4 yo4
  have e2 := bys_str b off len cap z w4 yb4
  generalize strOfNums (nums z len) = s at e1 e2
  have lb := hY.lt
  go_wp2
  have wo := Wby.of_bys hz yo4 fo4
  have lA' := Nat.ne_of_gt lA
  have lx' := Nat.ne_of_lt lx
  clear e1 e2 yo4 fo4 yb4
  go_loopw [10] (fun si wr => ∃ k : Nat, k ≤ len ∧ si = .int .i64 k ∧ Three wr w.heap.size (.bool i) (.int .u64 x) (.int .u64 y) ∧ Three wr bx (.bool xi) (.int .u64 xx) (.int .u64 xy) ∧ Wby wr g len ∧ Below w.heap.size w wr) (fun si _ => len - (intOf si).toNat)
  case atStart => exact ⟨0, by omega, rfl, ta, tx, wo, hB4⟩
  case round =>
    obtain ⟨k, hk, rfl, ra, rx, ro, rB⟩ := hrel
    clear ta tx wo hB4
    by_cases hlt : k < len
    · obtain ⟨v, hv, hc⟩ := ro.at_ k hlt
      have hf := ro.free k
      have hw := wrap_succ v
      go_wp2
      go_roundw
      case rel => exact ⟨k + 1, by omega, by go_num, ra.far lA' _ _, rx.far lx' _ _, ro.set _ (Nat.mod_lt _ (by decide)) hlt, rB.setCell (Nat.le_of_lt lA) _⟩
      case measure => simp [intOf]; omega
    · obtain rfl : k = len := by omega
      clear lA lx lA' lx' ro
      have c2 := fun w1 (h : Below w.heap.size w w1) => cr b off cap w1 (hY.below h hY.lt) hcap
      have ⟨ta0, ta1, ta2, fa0, fa1, fa2, la⟩ := ra
      have lx := rx.lt
      go_upto_region 10 with (go_at_call 6; (with_reducible refine Calls.mono (cw _) ?_); rintro e w_cw ⟨rfl, b_cw⟩)
      have sa : Three w_cw w.heap.size (.bool i) (.int .u64 x) (.int .u64 y) := ra.below b_cw ra.lt
      have sx : Three w_cw bx (.bool xi) (.int .u64 xx) (.int .u64 xy) := rx.below b_cw rx.lt
      have sB : Below w.heap.size w w_cw := rB.trans (b_cw.mono rB.size)
      clear ra rx rB ta0 ta1 ta2 fa0 fa1 fa2 la lx b_cw
      go_wp2
      go_loopw [13] (fun si wr => si = .int .i64 0 ∧ Three wr w.heap.size (.bool i) (.int .u64 x) (.int .u64 y) ∧ Three wr bx (.bool xi) (.int .u64 xx) (.int .u64 xy) ∧ Below w.heap.size w wr) (fun _ _ => 0)
      case atStart => exact ⟨rfl, sa, sx, sB⟩
      case round =>
        obtain ⟨rfl, ra, rx, rB⟩ := hrel
        clear sa sx sB
        have ⟨ta0, ta1, ta2, fa0, fa1, fa2, la⟩ := ra
        have lx := rx.lt
        go_upto_region 15 with (go_at_call 6; (with_reducible refine Calls.mono (cw _) ?_); rintro e w_cv ⟨rfl, b_cv⟩)
        have sx : Three w_cv bx (.bool xi) (.int .u64 xx) (.int .u64 xy) := rx.below b_cv rx.lt
        have sB : Below w.heap.size w w_cv := rB.trans (b_cv.mono rB.size)
        clear ra rx rB ta0 ta1 ta2 fa0 fa1 fa2 la lx b_cv cw
        go_upto_region 16 with (go_at_call 5; (with_reducible refine Calls.mono (c2 _ sB) ?_); rintro e w_c2 ⟨rfl, b_c2⟩)
        have z_c2 := b_c2.size
        have tx : Three (w_c2.alloc (.cells #[.bool xi, .int .u64 xx, .int .u64 xy] 24)) bx (.bool xi) (.int .u64 xx) (.int .u64 xy) := (sx.below b_c2 sx.lt).alloc _
        have ty : Three (w_c2.alloc (.cells #[.bool xi, .int .u64 xx, .int .u64 xy] 24)) w_c2.heap.size (.bool xi) (.int .u64 xx) (.int .u64 xy) := Three.new rfl
        have hB : Below w.heap.size w (w_c2.alloc (.cells #[.bool xi, .int .u64 xx, .int .u64 xy] 24)) := by have := sB.size; (repeat' (first | (with_reducible exact Below.refl _ _) | (with_reducible assumption) | (with_reducible refine Below.alloc ?_ ?_ _) | (with_reducible refine Below.drew ?_) | (with_reducible refine below_drewN ?_ _) | (with_reducible refine Below.setCell ?_ ?_ _) | (with_reducible refine below_via (by with_reducible assumption) ?_ ?_) | omega | (simp only [World.size_alloc, World.size_setCell, World.size_drew, size_drewN]; omega) | (simp only [World.size_alloc, World.size_setCell, World.size_drew, size_drewN] at *; omega)))
        generalize w_c2.alloc (.cells #[.bool xi, .int .u64 xx, .int .u64 xy] 24) = w6 at tx ty hB ⊢
        generalize w_c2.heap.size = bt at ty ⊢
        clear sx sB b_c2 z_c2 c2
        have ⟨x1, x2, x3, x4, x5, x6, x7⟩ := tx
        have ⟨y1, y2, y3, y4, y5, y6, y7⟩ := ty
        rcases hfv with rfl | rfl
        all_goals
          go_quiet (fail)
          go_wp2
          go_ret
          exact ⟨rfl, by (repeat' (first | (with_reducible exact Below.refl _ _) | (with_reducible assumption) | (with_reducible refine Below.alloc ?_ ?_ _) | (with_reducible refine Below.drew ?_) | (with_reducible refine below_drewN ?_ _) | (with_reducible refine Below.setCell ?_ ?_ _) | (with_reducible refine below_via (by with_reducible assumption) ?_ ?_) | omega | (simp only [World.size_alloc, World.size_setCell, World.size_drew, size_drewN]; omega) | (simp only [World.size_alloc, World.size_setCell, World.size_drew, size_drewN] at *; omega)))⟩
end Go.Proofs.Ytcgbemnmebgmjab
