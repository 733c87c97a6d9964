/-
  The walk of layer 7's statement on a point's bytes.
-/
import Derived.Test.YtoigpjaffggekaaDoorUpD
import Derived.Test.YtoigpjaffggekaaDoorEdC
import Derived.Test.YtoigpjaffggekaaDoorRefH
import Derived.Test.YtoigpjaffggekaaDoorCodeEq
namespace Go.Proofs.YtoigpjaffggekaaDoor
open Go.RowKit Go.Proofs
set_option linter.unusedVariables false
set_option linter.unusedSimpArgs false
attribute [local go_sem ↓] Go.wp_at_zero Go.wp_at_succ

theorem equal_same (w : World) (x y : Int) : (Op.equalIn 10000 25 (.agg #[.int .u64 x, .int .u64 y]) (.agg #[.int .u64 x, .int .u64 y])).run Tryd.prog w = .ok true w := by
  rw [equal_Ed]; simp
attribute [local go_sem] equal_same

set_option maxHeartbeats 4000000 in
theorem writes_no (x y : Int) (w : World)
   (cw : ∀ w, Calls Tryd.prog 13 #[.agg #[.int .u64 x, .int .u64 y]] w fun e w' => e = .returned (.tuple #[.slice none 0 0, .iface 30 (.int .i64 1)]) ∧ Below w.heap.size w w')
   (ci : ∀ w, Calls Tryd.prog 14 #[.agg #[.int .u64 x, .int .u64 y]] w fun e w' => e = .returned (.bool false) ∧ Below w.heap.size w w') :
    Calls Tryd.prog 4 #[.agg #[.int .u64 x, .int .u64 y]] w fun e w' => e = .returned (.bool true) ∧ Below w.heap.size w w' := by
  have cu := upW
  have ec := fun w => eql_code w 1 1
  go_enter Tryd.func4, Tryd.ntmps4
  go_wp2_with (first | (go_at_call 6; first | (with_reducible refine (cu _).mono ?_; rintro e w_cu ⟨rfl, b_cu⟩; have z_cu := b_cu.size; (try simp only [szs] at z_cu); (try (have q_cu_0 := own2 b_cu (w.heap.size) (by first | omega | (simp only [szs]; omega)))))) | (go_at_call 13; first | (with_reducible refine (cw _).mono ?_; rintro e w_cw ⟨rfl, b_cw⟩; have z_cw := b_cw.size; (try simp only [szs] at z_cw); (try (have q_cw_0 := own2 b_cw (w.heap.size) (by first | omega | (simp only [szs]; omega)))))) | (go_at_call 14; first | (with_reducible refine (ci _).mono ?_; rintro e w_ci ⟨rfl, b_ci⟩; have z_ci := b_ci.size; (try simp only [szs] at z_ci); (try (have q_ci_0 := own2 b_ci (w.heap.size) (by first | omega | (simp only [szs]; omega)))))))
  go_ret -- @HERE@
  exact ⟨rfl, by (repeat' (first | (with_reducible first | exact Below.refl _ _ | assumption | refine Below.alloc ?_ ?_ _ | refine Below.drew ?_ | refine below_drewN ?_ _ | refine Below.setCell ?_ ?_ _ | refine below_via (by with_reducible assumption) ?_ ?_) | omega | (simp only [szs]; omega) | (simp only [szs] at *; omega)))⟩

set_option maxHeartbeats 4000000 in
theorem writes_yes (x y : Int) (pz : Nat → Nat) (w : World)
   (cw : ∀ w, Calls Tryd.prog 13 #[.agg #[.int .u64 x, .int .u64 y]] w fun e w' => ∃ g, e = .returned (.tuple #[.slice (some ⟨g, 0, none⟩) 8 8, .nilIface]) ∧ w.heap.size ≤ g ∧ w'.ownsRow g 5 1 (.slice (some ⟨g, 0, none⟩) 8 8) 8 (vals pz 8) ∧ Below w.heap.size w w')
   (ci : ∀ w, Calls Tryd.prog 14 #[.agg #[.int .u64 x, .int .u64 y]] w fun e w' => e = .returned (.bool true) ∧ Below w.heap.size w w')
   (cr : ∀ (g : Nat) (w1 : World), Below w.heap.size w w1 → Bys w1 g 0 8 pz → Calls Tryd.prog 9 #[.slice (some ⟨g, 0, none⟩) 8 8] w1 fun e w' => e = .returned (.tuple #[.agg #[.int .u64 x, .int .u64 y], .nilIface]) ∧ Below w1.heap.size w1 w')
   (rb : ∀ w, Calls Tryd.prog 15 #[.agg #[.int .u64 x, .int .u64 y]] w fun e w' => ∃ g, e = .returned (.slice (some ⟨g, 0, none⟩) 8 8) ∧ w.heap.size ≤ g ∧ Bys w' g 0 8 pz ∧ Below w.heap.size w w') :
    Calls Tryd.prog 4 #[.agg #[.int .u64 x, .int .u64 y]] w fun e w' => e = .returned (.bool true) ∧ Below w.heap.size w w' := by
  have cu := upW
  go_enter Tryd.func4, Tryd.ntmps4
  go_upto_region 3 with (first | (first | (go_at_call 6; first | (with_reducible refine (cu _).mono ?_; rintro e w_cu ⟨rfl, b_cu⟩; have z_cu := b_cu.size; (try simp only [szs] at z_cu); (try (have q_cu_0 := own2 b_cu (w.heap.size) (by first | omega | (simp only [szs]; omega))))))) | (go_at_call 13; (with_reducible refine Calls.mono (cw _) ?_); rintro e w1 ⟨g, rfl, hg, hrow, b1⟩))
  have z1 := b1.size
  have hy := bys_of_row hrow
  have ta : Two w1 w.heap.size (.int .u64 x) (.int .u64 y) := by (repeat' (first | (with_reducible first | assumption | exact Two.own (by with_reducible assumption) | refine Two.set ?_ _ _ | refine Own2.set ?_ _ _ | refine Two.drew ?_ | refine Two.drewN ?_ _ | refine Own2.drew ?_ | refine Own2.drewN ?_ _ | (refine Two.new ?_; simp only [szs]; done) | (refine Own2.new ?_; simp only [szs]; done) | refine Two.alloc ?_ _ | refine Own2.alloc ?_ _ | refine Two.far ?_ ?_ _ _ | refine Own2.far ?_ ?_ _ _ | refine Two.via (by with_reducible assumption) ?_ ?_ | refine Own2.via (by with_reducible assumption) ?_ ?_) | omega | (simp only [szs]; omega)))
  have hB : Below w.heap.size w w1 := by (repeat' (first | (with_reducible first | exact Below.refl _ _ | assumption | refine Below.alloc ?_ ?_ _ | refine Below.drew ?_ | refine below_drewN ?_ _ | refine Below.setCell ?_ ?_ _ | refine below_via (by with_reducible assumption) ?_ ?_) | omega | (simp only [szs]; omega) | (simp only [szs] at *; omega)))
  ((try clear q_cu_0))
  clear cu cw b_cu z_cu b1 z1 hg hrow
  have ⟨d1, d2, d3, d4, d5⟩ := ta
  go_upto_region 6 with (first | (go_at_call 14; first | (with_reducible refine (ci _).mono ?_; rintro e w_ci ⟨rfl, b_ci⟩; have z_ci := b_ci.size; (try simp only [szs] at z_ci); (try (have q_ci_0 := own2 b_ci (w.heap.size) (by first | omega | (simp only [szs]; omega)))))))
  have ly := hy.lt
  have ta2 : Two w_ci w.heap.size (.int .u64 x) (.int .u64 y) := by (repeat' (first | (with_reducible first | assumption | exact Two.own (by with_reducible assumption) | refine Two.set ?_ _ _ | refine Own2.set ?_ _ _ | refine Two.drew ?_ | refine Two.drewN ?_ _ | refine Own2.drew ?_ | refine Own2.drewN ?_ _ | (refine Two.new ?_; simp only [szs]; done) | (refine Own2.new ?_; simp only [szs]; done) | refine Two.alloc ?_ _ | refine Own2.alloc ?_ _ | refine Two.far ?_ ?_ _ _ | refine Own2.far ?_ ?_ _ _ | refine Two.via (by with_reducible assumption) ?_ ?_ | refine Own2.via (by with_reducible assumption) ?_ ?_) | omega | (simp only [szs]; omega)))
  have hB2 : Below w.heap.size w w_ci := by have := hB.size; (repeat' (first | (with_reducible first | exact Below.refl _ _ | assumption | refine Below.alloc ?_ ?_ _ | refine Below.drew ?_ | refine below_drewN ?_ _ | refine Below.setCell ?_ ?_ _ | refine below_via (by with_reducible assumption) ?_ ?_) | omega | (simp only [szs]; omega) | (simp only [szs] at *; omega)))
  have hy2 : Bys w_ci g 0 8 pz := hy.below b_ci hy.lt
  ((try clear q_ci_0))
  clear ci b_ci z_ci d1 d2 d3 d4 d5 ta hB hy ly
  go_upto_region 7 with (go_at_call 9; (with_reducible refine Calls.mono (cr _ _ hB2 hy2) ?_); rintro e w3 ⟨rfl, b3⟩)
  have z3 := b3.size
  have ly := hy2.lt
  have la := ta2.lt
  have ta : Two (w3.alloc (.cells #[.int .u64 x, .int .u64 y] 25)) w.heap.size (.int .u64 x) (.int .u64 y) := by (repeat' (first | (with_reducible first | assumption | exact Two.own (by with_reducible assumption) | refine Two.set ?_ _ _ | refine Own2.set ?_ _ _ | refine Two.drew ?_ | refine Two.drewN ?_ _ | refine Own2.drew ?_ | refine Own2.drewN ?_ _ | (refine Two.new ?_; simp only [szs]; done) | (refine Own2.new ?_; simp only [szs]; done) | refine Two.alloc ?_ _ | refine Own2.alloc ?_ _ | refine Two.far ?_ ?_ _ _ | refine Own2.far ?_ ?_ _ _ | refine Two.via (by with_reducible assumption) ?_ ?_ | refine Own2.via (by with_reducible assumption) ?_ ?_) | omega | (simp only [szs]; omega)))
  have tx : Two (w3.alloc (.cells #[.int .u64 x, .int .u64 y] 25)) w3.heap.size (.int .u64 x) (.int .u64 y) := by (repeat' (first | (with_reducible first | assumption | exact Two.own (by with_reducible assumption) | refine Two.set ?_ _ _ | refine Own2.set ?_ _ _ | refine Two.drew ?_ | refine Two.drewN ?_ _ | refine Own2.drew ?_ | refine Own2.drewN ?_ _ | (refine Two.new ?_; simp only [szs]; done) | (refine Own2.new ?_; simp only [szs]; done) | refine Two.alloc ?_ _ | refine Own2.alloc ?_ _ | refine Two.far ?_ ?_ _ _ | refine Own2.far ?_ ?_ _ _ | refine Two.via (by with_reducible assumption) ?_ ?_ | refine Own2.via (by with_reducible assumption) ?_ ?_) | omega | (simp only [szs]; omega)))
  have hB : Below w.heap.size w (w3.alloc (.cells #[.int .u64 x, .int .u64 y] 25)) := by have := hB2.size; (repeat' (first | (with_reducible first | exact Below.refl _ _ | assumption | refine Below.alloc ?_ ?_ _ | refine Below.drew ?_ | refine below_drewN ?_ _ | refine Below.setCell ?_ ?_ _ | refine below_via (by with_reducible assumption) ?_ ?_) | omega | (simp only [szs]; omega) | (simp only [szs] at *; omega)))
  have hy : Bys (w3.alloc (.cells #[.int .u64 x, .int .u64 y] 25)) g 0 8 pz := (hy2.below b3 hy2.lt).alloc _
  generalize w3.alloc (.cells #[.int .u64 x, .int .u64 y] 25) = w4 at ta tx hB hy ⊢
  generalize w3.heap.size = bx at tx ⊢
  clear cr b3 z3 ta2 hB2 hy2 ly la
  have ⟨a1, a2, a3, a4, a5⟩ := ta
  have ⟨x1, x2, x3, x4, x5⟩ := tx
  have lg := hy.lt
  have hv : Hid (∀ g w', Bys w' g 0 8 pz → (convert 34 9 (.slice (some ⟨g, 0, none⟩) 8 8)).run Tryd.prog w' = .ok (.string (strOfNums (nums pz 8))) w') := fun g w' h => bys_str g 0 8 8 pz w' h
  generalize strOfNums (nums pz 8) = st at hv
  refine wp_region_noPanic ?_
  refine wp_region_held_drew (S := (fun w' => w'.cell? ⟨w.heap.size, 0, none⟩ = some (.int .u64 x) ∧ w'.cell? ⟨w.heap.size, 1, none⟩ = some (.int .u64 y) ∧ w'.cell? ⟨bx, 0, none⟩ = some (.int .u64 x) ∧ w'.cell? ⟨bx, 1, none⟩ = some (.int .u64 y) ∧ (convert 34 9 (.slice (some ⟨g, 0, none⟩) 8 8)).run Tryd.prog w' = .ok (.string st) w')) (by kernel_rfl) (by first | exact ⟨a1, a2, x1, x2, hv.out _ _ hy.drew⟩) (fun hHeld => ?_)
  refine wpAnyH_take (i := 0) (oi := ?oi_1) (v := ?v_1) ?hi_1 ?hs_1 ?hf_1 ?hr_1 ?hQ_1 (Or.inl ⟨?hw_1, ?hy_1⟩) ?hS_1 ?hrest_1
  case hi_1 => (simp only [List.getElem?_toArray, List.getElem?_cons_succ, List.getElem?_cons_zero]; exact rfl)
  case hs_1 => kernel_rfl
  case hf_1 => kernel_rfl
  case hr_1 => kernel_rfl
  case hQ_1 => exact fun _ _ _ h => h
  case hw_1 => rfl
  case hS_1 => assumption
  case hy_1 => (intro w hSw; (try dsimp only at hSw); go_simp; try with_reducible rfl)
  try simp only [Act.put, List.setIfInBounds_toArray, List.set_cons_zero, List.set_cons_succ]
  refine wpAnyH_take (i := 1) (oi := ?oi_2) (v := ?v_2) ?hi_2 ?hs_2 ?hf_2 ?hr_2 ?hQ_2 (Or.inl ⟨?hw_2, ?hy_2⟩) ?hS_2 ?hrest_2
  case hi_2 => (simp only [List.getElem?_toArray, List.getElem?_cons_succ, List.getElem?_cons_zero]; exact rfl)
  case hs_2 => kernel_rfl
  case hf_2 => kernel_rfl
  case hr_2 => kernel_rfl
  case hQ_2 => exact fun _ _ _ h => h
  case hw_2 => rfl
  case hS_2 => assumption
  case hy_2 => (intro w hSw; (try dsimp only at hSw); go_simp; try with_reducible rfl)
  try simp only [Act.put, List.setIfInBounds_toArray, List.set_cons_zero, List.set_cons_succ]
  refine wpAnyH_take (i := 2) (oi := ?oi_3) (v := ?v_3) ?hi_3 ?hs_3 ?hf_3 ?hr_3 ?hQ_3 (Or.inl ⟨?hw_3, ?hy_3⟩) ?hS_3 ?hrest_3
  case hi_3 => (simp only [List.getElem?_toArray, List.getElem?_cons_succ, List.getElem?_cons_zero]; exact rfl)
  case hs_3 => kernel_rfl
  case hf_3 => kernel_rfl
  case hr_3 => kernel_rfl
  case hQ_3 => exact fun _ _ _ h => h
  case hw_3 => rfl
  case hS_3 => assumption
  case hy_3 => (intro w hSw; (try dsimp only at hSw); go_simp; try with_reducible rfl)
  try simp only [Act.put, List.setIfInBounds_toArray, List.set_cons_zero, List.set_cons_succ]
  refine wpAnyH_take (i := 3) (oi := ?oi_4) (v := ?v_4) ?hi_4 ?hs_4 ?hf_4 ?hr_4 ?hQ_4 (Or.inl ⟨?hw_4, ?hy_4⟩) ?hS_4 ?hrest_4
  case hi_4 => (simp only [List.getElem?_toArray, List.getElem?_cons_succ, List.getElem?_cons_zero]; exact rfl)
  case hs_4 => kernel_rfl
  case hf_4 => kernel_rfl
  case hr_4 => kernel_rfl
  case hQ_4 => exact fun _ _ _ h => h
  case hw_4 => rfl
  case hS_4 => assumption
  case hy_4 => (intro w hSw; (try dsimp only at hSw); go_simp; try with_reducible rfl)
  try simp only [Act.put, List.setIfInBounds_toArray, List.set_cons_zero, List.set_cons_succ]
  refine wpAnyH_take (i := 4) (oi := ?oi_5) (v := ?v_5) ?hi_5 ?hs_5 ?hf_5 ?hr_5 ?hQ_5 (Or.inl ⟨?hw_5, ?hy_5⟩) ?hS_5 ?hrest_5
  case hi_5 => (simp only [List.getElem?_toArray, List.getElem?_cons_succ, List.getElem?_cons_zero]; exact rfl)
  case hs_5 => kernel_rfl
  case hf_5 => kernel_rfl
  case hr_5 => kernel_rfl
  case hQ_5 => exact fun _ _ _ h => h
  case hw_5 => rfl
  case hS_5 => assumption
  case hy_5 => (intro w hSw; (try dsimp only at hSw); go_simp; try with_reducible rfl)
  try simp only [Act.put, List.setIfInBounds_toArray, List.set_cons_zero, List.set_cons_succ]
  refine wpAnyH_take (i := 5) (oi := ?oi_6) (v := ?v_6) ?hi_6 ?hs_6 ?hf_6 ?hr_6 ?hQ_6 (Or.inl ⟨?hw_6, ?hy_6⟩) ?hS_6 ?hrest_6
  case hi_6 => (simp only [List.getElem?_toArray, List.getElem?_cons_succ, List.getElem?_cons_zero]; exact rfl)
  case hs_6 => kernel_rfl
  case hf_6 => kernel_rfl
  case hr_6 => kernel_rfl
  case hQ_6 => exact fun _ _ _ h => h
  case hw_6 => rfl
  case hS_6 => assumption
  case hy_6 => (intro w hSw; (try dsimp only at hSw); go_simp; try with_reducible rfl)
  try simp only [Act.put, List.setIfInBounds_toArray, List.set_cons_zero, List.set_cons_succ]
  refine wpAnyH_take (i := 6) (oi := ?oi_7) (v := ?v_7) ?hi_7 ?hs_7 ?hf_7 ?hr_7 ?hQ_7 (Or.inl ⟨?hw_7, ?hy_7⟩) ?hS_7 ?hrest_7
  case hi_7 => (simp only [List.getElem?_toArray, List.getElem?_cons_succ, List.getElem?_cons_zero]; exact rfl)
  case hs_7 => kernel_rfl
  case hf_7 => kernel_rfl
  case hr_7 => kernel_rfl
  case hQ_7 => exact fun _ _ _ h => h
  case hw_7 => rfl
  case hS_7 => assumption
  case hy_7 => (intro w hSw; (try dsimp only at hSw); go_simp; try with_reducible rfl)
  try simp only [Act.put, List.setIfInBounds_toArray, List.set_cons_zero, List.set_cons_succ]
  refine wpAnyH_take (i := 7) (oi := ?oi_8) (v := ?v_8) ?hi_8 ?hs_8 ?hf_8 ?hr_8 ?hQ_8 (Or.inl ⟨?hw_8, ?hy_8⟩) ?hS_8 ?hrest_8
  case hi_8 => (simp only [List.getElem?_toArray, List.getElem?_cons_succ, List.getElem?_cons_zero]; exact rfl)
  case hs_8 => kernel_rfl
  case hf_8 => kernel_rfl
  case hr_8 => kernel_rfl
  case hQ_8 => exact fun _ _ _ h => h
  case hw_8 => rfl
  case hS_8 => assumption
  case hy_8 => (intro w hSw; (try dsimp only at hSw); go_simp; try with_reducible rfl)
  try simp only [Act.put, List.setIfInBounds_toArray, List.set_cons_zero, List.set_cons_succ]
  refine wpAnyH_take (i := 8) (oi := ?oi_9) (v := ?v_9) ?hi_9 ?hs_9 ?hf_9 ?hr_9 ?hQ_9 (Or.inl ⟨?hw_9, ?hy_9⟩) ?hS_9 ?hrest_9
  case hi_9 => (simp only [List.getElem?_toArray, List.getElem?_cons_succ, List.getElem?_cons_zero]; exact rfl)
  case hs_9 => kernel_rfl
  case hf_9 => kernel_rfl
  case hr_9 => kernel_rfl
  case hQ_9 => exact fun _ _ _ h => h
  case hw_9 => rfl
  case hS_9 => assumption
  case hy_9 => (intro w hSw; (try dsimp only at hSw); go_simp; try with_reducible rfl)
  try simp only [Act.put, List.setIfInBounds_toArray, List.set_cons_zero, List.set_cons_succ]
  refine wpAnyH_ready (rs := [9]) (by kernel_rfl) (by simp) ?_
  refine (AllReadyH.cons (o := ?o_22) ?ho_22 (fun K hK => ?st_22) AllReadyH.nil)
  case ho_22 => (simp only [List.getElem?_toArray, List.getElem?_cons_succ, List.getElem?_cons_zero]; exact rfl)
  go_simp
  (go_at_call 15; (with_reducible refine Calls.mono (rb _) ?_); rintro e w5 ⟨g', rfl, hg', hy', b5⟩)
  have z5 := b5.size
  simp only [World.size_drew] at z5 b5
  have k1 := (bcell b5).1 w.heap.size
  have k2 := (bcell b5).1 bx
  have c0 := k1 0 (by omega); have c1 := k1 1 (by omega)
  have c3 := k2 0 (by omega); have c4 := k2 1 (by omega)
  have e0 := hv.out _ _ hy'
  have y5 : Bys w5 g 0 8 pz := (hy.drew).below b5 (by omega)
  clear k1 k2
  refine hK.out _ _ (by first | exact ⟨by simp [*], by simp [*], by simp [*], by simp [*], hv.out _ _ y5⟩) (fun hHeld => ?_)
  clear hK K
  try simp only [Act.put, List.setIfInBounds_toArray, List.set_cons_zero, List.set_cons_succ]
  refine wpAnyH_ready (rs := [10]) (by kernel_rfl) (by simp) ?_
  refine (AllReadyH.cons (o := ?o_23) ?ho_23 (fun K hK => ?st_23) AllReadyH.nil)
  case ho_23 => (simp only [List.getElem?_toArray, List.getElem?_cons_succ, List.getElem?_cons_zero]; exact rfl)
  go_simp
  refine hK.out _ _ (by first | exact ⟨by simp [*], by simp [*], by simp [*], by simp [*], hv.out _ _ y5⟩) (fun hHeld => ?_)
  clear hK K
  try simp only [Act.put, List.setIfInBounds_toArray, List.set_cons_zero, List.set_cons_succ]
  refine wpAnyH_take (i := 11) (oi := ?oi_10) (v := ?v_10) ?hi_10 ?hs_10 ?hf_10 ?hr_10 ?hQ_10 (Or.inl ⟨?hw_10, ?hy_10⟩) ?hS_10 ?hrest_10
  case hi_10 => (simp only [List.getElem?_toArray, List.getElem?_cons_succ, List.getElem?_cons_zero]; exact rfl)
  case hs_10 => kernel_rfl
  case hf_10 => kernel_rfl
  case hr_10 => kernel_rfl
  case hQ_10 => exact fun _ _ _ h => h
  case hw_10 => rfl
  case hS_10 => assumption
  case hy_10 => (intro w hSw; (try dsimp only at hSw); go_simp; try with_reducible rfl)
  try simp only [Act.put, List.setIfInBounds_toArray, List.set_cons_zero, List.set_cons_succ]
  refine wpAnyH_take (i := 12) (oi := ?oi_11) (v := ?v_11) ?hi_11 ?hs_11 ?hf_11 ?hr_11 ?hQ_11 (Or.inl ⟨?hw_11, ?hy_11⟩) ?hS_11 ?hrest_11
  case hi_11 => (simp only [List.getElem?_toArray, List.getElem?_cons_succ, List.getElem?_cons_zero]; exact rfl)
  case hs_11 => kernel_rfl
  case hf_11 => kernel_rfl
  case hr_11 => kernel_rfl
  case hQ_11 => exact fun _ _ _ h => h
  case hw_11 => rfl
  case hS_11 => assumption
  case hy_11 => (intro w hSw; (try dsimp only at hSw); go_simp; try with_reducible rfl)
  try simp only [Act.put, List.setIfInBounds_toArray, List.set_cons_zero, List.set_cons_succ]
  refine wpAnyH_take (i := 13) (oi := ?oi_12) (v := ?v_12) ?hi_12 ?hs_12 ?hf_12 ?hr_12 ?hQ_12 (Or.inl ⟨?hw_12, ?hy_12⟩) ?hS_12 ?hrest_12
  case hi_12 => (simp only [List.getElem?_toArray, List.getElem?_cons_succ, List.getElem?_cons_zero]; exact rfl)
  case hs_12 => kernel_rfl
  case hf_12 => kernel_rfl
  case hr_12 => kernel_rfl
  case hQ_12 => exact fun _ _ _ h => h
  case hw_12 => rfl
  case hS_12 => assumption
  case hy_12 => (intro w hSw; (try dsimp only at hSw); go_simp; try with_reducible rfl)
  try simp only [Act.put, List.setIfInBounds_toArray, List.set_cons_zero, List.set_cons_succ]
  refine wpAnyH_take (i := 14) (oi := ?oi_13) (v := ?v_13) ?hi_13 ?hs_13 ?hf_13 ?hr_13 ?hQ_13 (Or.inl ⟨?hw_13, ?hy_13⟩) ?hS_13 ?hrest_13
  case hi_13 => (simp only [List.getElem?_toArray, List.getElem?_cons_succ, List.getElem?_cons_zero]; exact rfl)
  case hs_13 => kernel_rfl
  case hf_13 => kernel_rfl
  case hr_13 => kernel_rfl
  case hQ_13 => exact fun _ _ _ h => h
  case hw_13 => rfl
  case hS_13 => assumption
  case hy_13 => (intro w hSw; (try dsimp only at hSw); go_simp; try with_reducible rfl)
  try simp only [Act.put, List.setIfInBounds_toArray, List.set_cons_zero, List.set_cons_succ]
  refine wpAnyH_take (i := 15) (oi := ?oi_14) (v := ?v_14) ?hi_14 ?hs_14 ?hf_14 ?hr_14 ?hQ_14 (Or.inl ⟨?hw_14, ?hy_14⟩) ?hS_14 ?hrest_14
  case hi_14 => (simp only [List.getElem?_toArray, List.getElem?_cons_succ, List.getElem?_cons_zero]; exact rfl)
  case hs_14 => kernel_rfl
  case hf_14 => kernel_rfl
  case hr_14 => kernel_rfl
  case hQ_14 => exact fun _ _ _ h => h
  case hw_14 => rfl
  case hS_14 => assumption
  case hy_14 => (intro w hSw; (try dsimp only at hSw); go_simp; try with_reducible rfl)
  try simp only [Act.put, List.setIfInBounds_toArray, List.set_cons_zero, List.set_cons_succ]
  refine wpAnyH_take (i := 16) (oi := ?oi_15) (v := ?v_15) ?hi_15 ?hs_15 ?hf_15 ?hr_15 ?hQ_15 (Or.inl ⟨?hw_15, ?hy_15⟩) ?hS_15 ?hrest_15
  case hi_15 => (simp only [List.getElem?_toArray, List.getElem?_cons_succ, List.getElem?_cons_zero]; exact rfl)
  case hs_15 => kernel_rfl
  case hf_15 => kernel_rfl
  case hr_15 => kernel_rfl
  case hQ_15 => exact fun _ _ _ h => h
  case hw_15 => rfl
  case hS_15 => assumption
  case hy_15 => (intro w hSw; (try dsimp only at hSw); go_simp; try with_reducible rfl)
  try simp only [Act.put, List.setIfInBounds_toArray, List.set_cons_zero, List.set_cons_succ]
  refine wpAnyH_take (i := 17) (oi := ?oi_16) (v := ?v_16) ?hi_16 ?hs_16 ?hf_16 ?hr_16 ?hQ_16 (Or.inl ⟨?hw_16, ?hy_16⟩) ?hS_16 ?hrest_16
  case hi_16 => (simp only [List.getElem?_toArray, List.getElem?_cons_succ, List.getElem?_cons_zero]; exact rfl)
  case hs_16 => kernel_rfl
  case hf_16 => kernel_rfl
  case hr_16 => kernel_rfl
  case hQ_16 => exact fun _ _ _ h => h
  case hw_16 => rfl
  case hS_16 => assumption
  case hy_16 => (intro w hSw; (try dsimp only at hSw); go_simp; try with_reducible rfl)
  try simp only [Act.put, List.setIfInBounds_toArray, List.set_cons_zero, List.set_cons_succ]
  refine wpAnyH_take (i := 18) (oi := ?oi_17) (v := ?v_17) ?hi_17 ?hs_17 ?hf_17 ?hr_17 ?hQ_17 (Or.inl ⟨?hw_17, ?hy_17⟩) ?hS_17 ?hrest_17
  case hi_17 => (simp only [List.getElem?_toArray, List.getElem?_cons_succ, List.getElem?_cons_zero]; exact rfl)
  case hs_17 => kernel_rfl
  case hf_17 => kernel_rfl
  case hr_17 => kernel_rfl
  case hQ_17 => exact fun _ _ _ h => h
  case hw_17 => rfl
  case hS_17 => assumption
  case hy_17 => (intro w hSw; (try dsimp only at hSw); go_simp; try with_reducible rfl)
  try simp only [Act.put, List.setIfInBounds_toArray, List.set_cons_zero, List.set_cons_succ]
  refine wpAnyH_take (i := 19) (oi := ?oi_18) (v := ?v_18) ?hi_18 ?hs_18 ?hf_18 ?hr_18 ?hQ_18 (Or.inl ⟨?hw_18, ?hy_18⟩) ?hS_18 ?hrest_18
  case hi_18 => (simp only [List.getElem?_toArray, List.getElem?_cons_succ, List.getElem?_cons_zero]; exact rfl)
  case hs_18 => kernel_rfl
  case hf_18 => kernel_rfl
  case hr_18 => kernel_rfl
  case hQ_18 => exact fun _ _ _ h => h
  case hw_18 => rfl
  case hS_18 => assumption
  case hy_18 => (intro w hSw; (try dsimp only at hSw); go_simp; try with_reducible rfl)
  try simp only [Act.put, List.setIfInBounds_toArray, List.set_cons_zero, List.set_cons_succ]
  refine wpAnyH_take (i := 20) (oi := ?oi_19) (v := ?v_19) ?hi_19 ?hs_19 ?hf_19 ?hr_19 ?hQ_19 (Or.inl ⟨?hw_19, ?hy_19⟩) ?hS_19 ?hrest_19
  case hi_19 => (simp only [List.getElem?_toArray, List.getElem?_cons_succ, List.getElem?_cons_zero]; exact rfl)
  case hs_19 => kernel_rfl
  case hf_19 => kernel_rfl
  case hr_19 => kernel_rfl
  case hQ_19 => exact fun _ _ _ h => h
  case hw_19 => rfl
  case hS_19 => assumption
  case hy_19 => (intro w hSw; (try dsimp only at hSw); go_simp; try with_reducible rfl)
  try simp only [Act.put, List.setIfInBounds_toArray, List.set_cons_zero, List.set_cons_succ]
  refine wpAnyH_take (i := 21) (oi := ?oi_20) (v := ?v_20) ?hi_20 ?hs_20 ?hf_20 ?hr_20 ?hQ_20 (Or.inl ⟨?hw_20, ?hy_20⟩) ?hS_20 ?hrest_20
  case hi_20 => (simp only [List.getElem?_toArray, List.getElem?_cons_succ, List.getElem?_cons_zero]; exact rfl)
  case hs_20 => kernel_rfl
  case hf_20 => kernel_rfl
  case hr_20 => kernel_rfl
  case hQ_20 => exact fun _ _ _ h => h
  case hw_20 => rfl
  case hS_20 => assumption
  case hy_20 => (intro w hSw; (try dsimp only at hSw); go_simp; try with_reducible rfl)
  try simp only [Act.put, List.setIfInBounds_toArray, List.set_cons_zero, List.set_cons_succ]
  refine wpAnyH_take (i := 22) (oi := ?oi_21) (v := ?v_21) ?hi_21 ?hs_21 ?hf_21 ?hr_21 ?hQ_21 (Or.inl ⟨?hw_21, ?hy_21⟩) ?hS_21 ?hrest_21
  case hi_21 => (simp only [List.getElem?_toArray, List.getElem?_cons_succ, List.getElem?_cons_zero]; exact rfl)
  case hs_21 => kernel_rfl
  case hf_21 => kernel_rfl
  case hr_21 => kernel_rfl
  case hQ_21 => exact fun _ _ _ h => h
  case hw_21 => rfl
  case hS_21 => assumption
  case hy_21 => (intro w hSw; (try dsimp only at hSw); go_simp; try with_reducible rfl)
  try simp only [Act.put, List.setIfInBounds_toArray, List.set_cons_zero, List.set_cons_succ]
  refine wpAnyH_done (by kernel_rfl) ?_ _
  refine NoPanic.normal ?_
  go_wp2
  go_ret
  exact ⟨rfl, by (repeat' (first | (with_reducible first | exact Below.refl _ _ | assumption | refine Below.alloc ?_ ?_ _ | refine Below.drew ?_ | refine below_drewN ?_ _ | refine Below.setCell ?_ ?_ _ | refine below_via (by with_reducible assumption) ?_ ?_) | omega | (simp only [szs]; omega) | (simp only [szs] at *; omega)))⟩

theorem edwardsWrites_walk (x0 y0 : Int) (w : World) (wx0 : (Lit.int .u64 x0).wf = true) (wy0 : (Lit.int .u64 y0).wf = true) (hT : TabOk w) :
    Calls Tryd.prog 4 #[.agg #[.int .u64 x0, .int .u64 y0]] w fun e w' => e = .returned (.bool true) ∧ Below w.heap.size w w' := by
  obtain ⟨x, rfl, hx⟩ := word_of wx0
  obtain ⟨y, rfl, hy⟩ := word_of wy0
  have c0 := eisW x y hx hy
  have ci := gisW x y hx hy
  cases h : Ob.isG x y with
  | true =>
    rw [h] at ci
    have ho := Ob.ofG_on x y
    have cw := ewriteW ho
    have rb := gbytesW (Ob.ofG x y)
    have cr := fun (g : Nat) (w1 : World) (hb : Below w.heap.size w w1) (hB : Bys w1 g 0 8 (Ob.byteAt (Ob.edN (Ob.ofG x y)))) => eread_yes g 0 8 (Ob.byteAt (Ob.edN (Ob.ofG x y))) (Ob.byteAt_lt _) w1 (hT.below hb hT.lt) hB ho (Ob.num_bytes _ (Ob.edN_lt _))
    rw [← edV_yes h] at cw rb cr
    exact writes_yes x y _ w cw ci cr rb
  | false =>
    rw [h] at ci c0
    exact writes_no x y w (fun w => ewrite_no x y w c0) ci
end Go.Proofs.YtoigpjaffggekaaDoor
