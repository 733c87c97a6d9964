/-
  The walk of layer 8's statement that values stay.
-/
import Derived.Test.YtkekomiaiaacaaaDoorJ6
import Derived.Test.YtkekomiaiaacaaaDoorWdsA
import Derived.Test.YtkekomiaiaacaaaDoorJ3
namespace Go.Proofs.YtkekomiaiaacaaaDoor
open Go.RowKit Go.Proofs
set_option linter.unusedVariables false
set_option linter.unusedSimpArgs false
attribute [local go_sem ↓] Go.wp_at_zero Go.wp_at_succ
attribute [local irreducible] Ob.gmul Ob.gadd baseP Ob.gcom
theorem arr_of_ownW {w : World} {base n cap g : Nat} {z : Nat → Nat} (h : OwnW w base (.slice (some ⟨g, 0, none⟩) n cap) n z) : Arr w .u64 g n z := by
  refine ⟨(h.lt g rfl).2, fun i hi => ?_, fun i hi => ?_⟩
  · have := (wds_of_row h).at_ i hi
    rw [Nat.zero_add] at this
    exact this
  · rcases h.2 with ⟨h0, _⟩ | ⟨g', cap', cur, hv, _, hg, _⟩
    · cases h0
    · cases hv
      simp [World.frozen?, hg]
theorem pstays_out (a : Option Addr) (n c : Nat) (h : 4 < n) (x : Int) (w : World)
   (cu : Calls Tryd.prog 8 #[] w fun e w' => e = .returned (.bool true) ∧ Below w.heap.size w w') :
    Calls Tryd.prog 7 #[.slice a n c, .int .u64 x] w fun e w' => e = .returned (.bool true) ∧ Below w.heap.size w w' := by
  have h1 : (4 : Int) < (n : Int) := by omega
  clear h
  go_enter Tryd.func7, Tryd.ntmps7
  go_wp2_with (go_at_call 8; (with_reducible refine cu.mono ?_); rintro e w1 ⟨rfl, b1⟩)
  go_ret
  exact ⟨rfl, by (repeat' (first | (with_reducible first | exact Below.refl _ _ | assumption | refine Below.alloc ?_ ?_ _ | refine Below.drew ?_ | refine below_drewN ?_ _ | refine Below.setCell ?_ ?_ _ | refine below_via (by with_reducible assumption) ?_ ?_) | omega | (simp only [szs]; omega) | (simp only [szs] at *; omega)))⟩
set_option maxRecDepth 4000 in
set_option maxHeartbeats 8000000 in
theorem pstays_core (a : Option Addr) (n c : Nat) (hn : n ≤ 4) (u : Nat → Nat) (hu : ∀ i, u i < 18446744073709551616) (x px py : Int) (w : World)
   (ha : SrcW w.heap.size w a n u)
   (cu : Calls Tryd.prog 8 #[] w fun e w' => e = .returned (.bool true) ∧ Below w.heap.size w w')
   (c1 : ∀ W f h, Below w.heap.size w W → SrcW W.heap.size W f n u → Calls Tryd.prog 12 #[.slice f n h, .int .u64 x] W fun e w' => e = .returned (.tuple #[.agg #[.int .u64 px, .int .u64 py], .nilIface]) ∧ Below W.heap.size W w')
   (he : ∀ w, (Op.equalIn 10000 25 (.agg #[.int .u64 px, .int .u64 py]) (.agg #[.int .u64 px, .int .u64 py])).run Tryd.prog w = .ok true w) :
    Calls Tryd.prog 7 #[.slice a n c, .int .u64 x] w fun e w' => e = .returned (.bool true) ∧ Below w.heap.size w w' := by
  have h1 : ¬ (4 : Int) < (n : Int) := by omega
  have hu' : Hid (∀ i, u i < 18446744073709551616) := hu
  have ha' : Hid (SrcW w.heap.size w a n u) := ha
  clear hu ha
  go_enter Tryd.func7, Tryd.ntmps7
  go_upto_region 2 with (go_at_call 8; (with_reducible refine cu.mono ?_); rintro e w1 ⟨rfl, b1⟩; have z1 := b1.size)
  go_upto_region 5 with (at_builtin; refine wpList_copyW rfl _ _ rfl w.heap.size w1.heap.size rfl (World.ownsRow_made w1 #[] 0 z1 (by decide) rfl) (by simp; omega) w.heap.size a n c u rfl (ha'.out.below (by (repeat' (first | (with_reducible first | exact Below.refl _ _ | assumption | refine Below.alloc ?_ ?_ _ | refine Below.drew ?_ | refine below_drewN ?_ _ | refine Below.setCell ?_ ?_ _ | refine below_via (by with_reducible assumption) ?_ ?_) | omega | (simp only [szs]; omega) | (simp only [szs] at *; omega))))) (by omega) ?_; intro g cap w2 hown hB2)
  have hown' : Hid (OwnW w2 w.heap.size (.slice (some ⟨g, 0, none⟩) n cap) n u) := hown
  have hB : Below w.heap.size w w2 := by (repeat' (first | (with_reducible first | exact Below.refl _ _ | assumption | refine Below.alloc ?_ ?_ _ | refine Below.drew ?_ | refine below_drewN ?_ _ | refine Below.setCell ?_ ?_ _ | refine below_via (by with_reducible assumption) ?_ ?_) | omega | (simp only [szs]; omega) | (simp only [szs] at *; omega)))
  have lg := (hown'.out.lt g rfl).1
  have lg2 := (hown'.out.lt g rfl).2
  clear hown b1 z1 hB2 cu
  have hsrc : Hid (SrcW w2.heap.size w2 (some ⟨g, 0, none⟩) n u) := SrcW.of (wds_of_row hown'.out)
  go_upto_region 6 with (go_at_call 12; (with_reducible refine (c1 _ _ _ hB hsrc.out).mono ?_); rintro e w3 ⟨rfl, b3⟩)
  have z0 := hB.size
  have z3 := b3.size
  have t3 : Two (w3.alloc (.cells #[.int .u64 px, .int .u64 py] 25)) w3.heap.size (.int .u64 px) (.int .u64 py) := by (repeat' (first | (with_reducible first | assumption | exact Two.own (by with_reducible assumption) | refine Two.set ?_ _ _ | refine Own2.set ?_ _ _ | refine Two.drew ?_ | refine Two.drewN ?_ _ | refine Own2.drew ?_ | refine Own2.drewN ?_ _ | (refine Two.new ?_; simp only [szs]; done) | (refine Own2.new ?_; simp only [szs]; done) | refine Two.alloc ?_ _ | refine Own2.alloc ?_ _ | refine Two.far ?_ ?_ _ _ | refine Own2.far ?_ ?_ _ _ | refine Two.via (by with_reducible assumption) ?_ ?_ | refine Own2.via (by with_reducible assumption) ?_ ?_) | omega | (simp only [szs]; omega)))
  have hB3 : Below w.heap.size w (w3.alloc (.cells #[.int .u64 px, .int .u64 py] 25)) := by (repeat' (first | (with_reducible first | exact Below.refl _ _ | assumption | refine Below.alloc ?_ ?_ _ | refine Below.drew ?_ | refine below_drewN ?_ _ | refine Below.setCell ?_ ?_ _ | refine below_via (by with_reducible assumption) ?_ ?_) | omega | (simp only [szs]; omega) | (simp only [szs] at *; omega)))
  have hA : Hid (Arr (w3.alloc (.cells #[.int .u64 px, .int .u64 py] 25)) .u64 g n u) := ((arr_of_ownW hown'.out).below b3 lg2).alloc _
  have n1 : g ≠ w3.heap.size := by omega
  have n2 : w3.heap.size ≠ g := by omega
  generalize (w3.alloc (.cells #[.int .u64 px, .int .u64 py] 25)) = V at *
  generalize w3.heap.size = b3_ at *
  clear b3 z0 z3 hB hown' hsrc lg2
  go_wp2
  go_loopw [9] (fun si wr => ∃ (i : Nat) (Y : Nat → Nat), i ≤ n ∧ si = .int .i64 i ∧ Hid (Arr wr .u64 g n Y) ∧ Hid (∀ j, i ≤ j → Y j = u j) ∧ Two wr b3_ (.int .u64 px) (.int .u64 py) ∧ Below w.heap.size w wr) (fun si _ => n - (intOf si).toNat)
  case atStart => exact ⟨0, u, by omega, rfl, hA, fun _ _ => rfl, t3, hB3⟩
  case round =>
    clear hA t3 hB3
    obtain ⟨i, Y, hi, rfl, hA, hY, t3, hB3⟩ := hrel
    by_cases hlt : i < n
    · have hlt' : (i : Int) < (n : Int) := by omega
      have hi0 : (0 : Int) ≤ (i : Int) := by omega
      rcases ha'.out with h | ⟨ba, oa, rfl, la, wa⟩
      · omega
      have d1 : wr.cell? ⟨ba, oa + i, none⟩ = some (.int .u64 (u i : Nat)) := (wa.below hB3 la).at_ i hlt
      have d2 : wr.cell? ⟨g, i, none⟩ = some (.int .u64 (u i : Nat)) := by rw [← hY.out i (Nat.le_refl _)]; exact hA.out.c i hlt
      have d3 := hA.out.f i hlt
      have hui := hu'.out i
      obtain ⟨y, hy⟩ : ∃ y : Nat, IntKind.u64.wrap ((u i : Nat) + 1) = (y : Int) := ⟨(u i + 1) % 18446744073709551616, by rw [IntKind.wrap_u64]; omega⟩
      generalize u i = ui at *
      clear la wa
      go_wp2
      go_quiet (fail)
      go_wp2
      go_roundw
      case rel => exact ⟨i + 1, Ob.upd Y i y, by omega, by go_num, (hA.out.drewN _).set hlt, fun j hj => by rw [Ob.upd_ne _ _ (by omega)]; exact hY.out j (by omega), by (repeat' (first | (with_reducible first | assumption | exact Two.own (by with_reducible assumption) | refine Two.set ?_ _ _ | refine Own2.set ?_ _ _ | refine Two.drew ?_ | refine Two.drewN ?_ _ | refine Own2.drew ?_ | refine Own2.drewN ?_ _ | (refine Two.new ?_; simp only [szs]; done) | (refine Own2.new ?_; simp only [szs]; done) | refine Two.alloc ?_ _ | refine Own2.alloc ?_ _ | refine Two.far ?_ ?_ _ _ | refine Own2.far ?_ ?_ _ _ | refine Two.via (by with_reducible assumption) ?_ ?_ | refine Own2.via (by with_reducible assumption) ?_ ?_) | omega | (simp only [szs]; omega))), by (repeat' (first | (with_reducible first | exact Below.refl _ _ | assumption | refine Below.alloc ?_ ?_ _ | refine Below.drew ?_ | refine below_drewN ?_ _ | refine Below.setCell ?_ ?_ _ | refine below_via (by with_reducible assumption) ?_ ?_) | omega | (simp only [szs]; omega) | (simp only [szs] at *; omega)))⟩
      case measure => first | (simp [intOf]; done) | (simp [intOf]; omega)
    · obtain rfl : i = n := by omega
      have hlt' : ¬ (i : Int) < (i : Int) := by omega
      have hs2 := ha'.out.to hB3 (Nat.le_refl _)
      have hs3 : Hid (SrcW wr.heap.size wr a i u) := hs2
      clear hs2 hA hY
      go_upto_region 13 with (go_at_call 12; (with_reducible refine (c1 _ _ _ hB3 hs3.out).mono ?_); rintro e w4 ⟨rfl, b4⟩)
      have z0 := hB3.size
      have z4 := b4.size
      have l3 := t3.lt
      have t5 : Two (w4.alloc (.cells #[.int .u64 px, .int .u64 py] 25)) b3_ (.int .u64 px) (.int .u64 py) := by (repeat' (first | (with_reducible first | assumption | exact Two.own (by with_reducible assumption) | refine Two.set ?_ _ _ | refine Own2.set ?_ _ _ | refine Two.drew ?_ | refine Two.drewN ?_ _ | refine Own2.drew ?_ | refine Own2.drewN ?_ _ | (refine Two.new ?_; simp only [szs]; done) | (refine Own2.new ?_; simp only [szs]; done) | refine Two.alloc ?_ _ | refine Own2.alloc ?_ _ | refine Two.far ?_ ?_ _ _ | refine Own2.far ?_ ?_ _ _ | refine Two.via (by with_reducible assumption) ?_ ?_ | refine Own2.via (by with_reducible assumption) ?_ ?_) | omega | (simp only [szs]; omega)))
      have t6 : Two (w4.alloc (.cells #[.int .u64 px, .int .u64 py] 25)) w4.heap.size (.int .u64 px) (.int .u64 py) := by (repeat' (first | (with_reducible first | assumption | exact Two.own (by with_reducible assumption) | refine Two.set ?_ _ _ | refine Own2.set ?_ _ _ | refine Two.drew ?_ | refine Two.drewN ?_ _ | refine Own2.drew ?_ | refine Own2.drewN ?_ _ | (refine Two.new ?_; simp only [szs]; done) | (refine Own2.new ?_; simp only [szs]; done) | refine Two.alloc ?_ _ | refine Own2.alloc ?_ _ | refine Two.far ?_ ?_ _ _ | refine Own2.far ?_ ?_ _ _ | refine Two.via (by with_reducible assumption) ?_ ?_ | refine Own2.via (by with_reducible assumption) ?_ ?_) | omega | (simp only [szs]; omega)))
      have hB4 : Below w.heap.size w (w4.alloc (.cells #[.int .u64 px, .int .u64 py] 25)) := by (repeat' (first | (with_reducible first | exact Below.refl _ _ | assumption | refine Below.alloc ?_ ?_ _ | refine Below.drew ?_ | refine below_drewN ?_ _ | refine Below.setCell ?_ ?_ _ | refine below_via (by with_reducible assumption) ?_ ?_) | omega | (simp only [szs]; omega) | (simp only [szs] at *; omega)))
      generalize (w4.alloc (.cells #[.int .u64 px, .int .u64 py] 25)) = V4 at *
      generalize w4.heap.size = b4_ at *
      clear b4 z0 z4 l3 t3 hB3 hs3
      have ⟨d1, d2, d3, d4, d5⟩ := t5
      have ⟨e1, e2, e3, e4, e5⟩ := t6
      go_wp2
      go_ret
      exact ⟨rfl, by (repeat' (first | (with_reducible first | exact Below.refl _ _ | assumption | refine Below.alloc ?_ ?_ _ | refine Below.drew ?_ | refine below_drewN ?_ _ | refine Below.setCell ?_ ?_ _ | refine below_via (by with_reducible assumption) ?_ ?_) | omega | (simp only [szs]; omega) | (simp only [szs] at *; omega)))⟩
theorem pedersenStays_walk (a0 : Option Addr) (len0 cap0 : Nat) (z0 : List Int) (a1 : Int) (w : World) (w0 : IsRow .u64 w a0 len0 cap0 z0) (w1 : (Lit.int .u64 a1).wf = true) (hL : TabOk w ∧ Tabs w) :
    Calls Tryd.prog 7 #[.slice a0 len0 cap0, .int .u64 a1] w fun e w' => e = .returned (.bool true) ∧ Below w.heap.size w w' := by
  obtain ⟨x, rfl, hx⟩ := word_of w1
  obtain ⟨hT, hTs⟩ := hL
  obtain ⟨u, _, _, hu, hs, _, _⟩ := srcW_of_isRow w0
  have cu := up8W w hT hTs
  by_cases h : 4 < len0
  · exact pstays_out a0 len0 cap0 h _ w cu
  · exact pstays_core a0 len0 cap0 (by omega) u hu _ _ _ w hs cu
      (fun W f k h hsr => pcommitW f len0 k u hu (by omega) x hx W (hT.below h hT.lt) (hTs.below h hTs.lt) hsr)
      (fun w => by rw [equal_Ed]; simp)
end Go.Proofs.YtkekomiaiaacaaaDoor
