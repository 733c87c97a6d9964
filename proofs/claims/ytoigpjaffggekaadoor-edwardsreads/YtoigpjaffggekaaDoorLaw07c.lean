/-
  The walk of layer 7's statement on what bytes tell.
-/
import Derived.Test.YtoigpjaffggekaaDoorUpD
import Derived.Test.YtoigpjaffggekaaDoorEdC
import Derived.Test.YtoigpjaffggekaaDoorRefH
import Derived.Test.YtoigpjaffggekaaDoorCodeEq
import Derived.Test.YtoigpjaffggekaaDoorRowW
namespace Go.Proofs.YtoigpjaffggekaaDoor
open Go.RowKit Go.Proofs
set_option linter.unusedVariables false
set_option linter.unusedSimpArgs false
attribute [local go_sem ↓] Go.wp_at_zero Go.wp_at_succ

theorem equal_00 (w : World) : (Op.equalIn 10000 25 (.agg #[.int .u64 0, .int .u64 0]) (.agg #[.int .u64 0, .int .u64 0])).run Tryd.prog w = .ok true w := by
  rw [equal_Ed]; rfl
attribute [local go_sem] equal_00

set_option maxRecDepth 4000 in
set_option maxHeartbeats 4000000 in
theorem reads_len (a : Option Addr) (len cap : Nat) (h : len ≠ 8) (w : World) :
    Calls Tryd.prog 5 #[.slice a len cap] w fun e w' => e = .returned (.bool true) ∧ Below w.heap.size w w' := by
  have cu := upW
  have ec := fun w => eql_code w 3 3
  have cr := eread_len a len cap h
  unfold noEd at cr
  have i1 : ((len : Int) == 8) = false := by simp; omega
  have i2 : ((len : Int) != 8) = true := by simp; omega
  clear h
  go_enter Tryd.func5, Tryd.ntmps5
  go_wp2_with (first | (go_at_call 6; first | (with_reducible refine (cu _).mono ?_; rintro e w_cu ⟨rfl, b_cu⟩; have z_cu := b_cu.size; (try simp only [szs] at z_cu))) | (go_at_call 9; first | (with_reducible refine (cr _).mono ?_; rintro e w_cr ⟨rfl, b_cr⟩; have z_cr := b_cr.size; (try simp only [szs] at z_cr))))
  go_ret
  exact ⟨rfl, by (repeat' (first | (with_reducible first | exact Below.refl _ _ | assumption | refine Below.alloc ?_ ?_ _ | refine Below.drew ?_ | refine below_drewN ?_ _ | refine Below.setCell ?_ ?_ _ | refine below_via (by with_reducible assumption) ?_ ?_) | omega | (simp only [szs]; omega) | (simp only [szs] at *; omega)))⟩
set_option maxRecDepth 4000 in
set_option maxHeartbeats 4000000 in
theorem reads_big (b off cap n y : Nat) (w : World)
   (hn : (n : Int) % 9223372036854775808 = (y : Int)) (hy : decide ((y : Int) < 288230376287764481) = false)
   (cr : ∀ w1, Below w.heap.size w w1 → Calls Tryd.prog 9 #[.slice (some ⟨b, off, none⟩) 8 cap] w1 fun e w' => e = .returned (.tuple #[.agg #[.int .u64 0, .int .u64 0], .iface 30 (.int .i64 3)]) ∧ Below w1.heap.size w1 w')
   (cn : ∀ w1, Below w.heap.size w w1 → Calls Tryd.prog 16 #[.slice (some ⟨b, off, none⟩) 8 cap] w1 fun e w' => e = .returned (.int .u64 n) ∧ w1 = w') :
    Calls Tryd.prog 5 #[.slice (some ⟨b, off, none⟩) 8 cap] w fun e w' => e = .returned (.bool true) ∧ Below w.heap.size w w' := by
  have cu := upW
  have ec := fun w => eql_code w 3 3
  go_enter Tryd.func5, Tryd.ntmps5
  go_wp2_with (first | (first | (go_at_call 6; first | (with_reducible refine (cu _).mono ?_; rintro e w_cu ⟨rfl, b_cu⟩; have z_cu := b_cu.size; (try simp only [szs] at z_cu)))) | (go_at_call 9; (with_reducible refine (cr _ (by (repeat' (first | (with_reducible first | exact Below.refl _ _ | assumption | refine Below.alloc ?_ ?_ _ | refine Below.drew ?_ | refine below_drewN ?_ _ | refine Below.setCell ?_ ?_ _ | refine below_via (by with_reducible assumption) ?_ ?_) | omega | (simp only [szs]; omega) | (simp only [szs] at *; omega))))).mono ?_); rintro e w_cr ⟨rfl, b_cr⟩; have z_cr := b_cr.size; have hBx : Below w.heap.size w w_cr := by (repeat' (first | (with_reducible first | exact Below.refl _ _ | assumption | refine Below.alloc ?_ ?_ _ | refine Below.drew ?_ | refine below_drewN ?_ _ | refine Below.setCell ?_ ?_ _ | refine below_via (by with_reducible assumption) ?_ ?_) | omega | (simp only [szs]; omega) | (simp only [szs] at *; omega)))) | (go_at_call 16; (with_reducible refine (cn _ (by (repeat' (first | (with_reducible first | exact Below.refl _ _ | assumption | refine Below.alloc ?_ ?_ _ | refine Below.drew ?_ | refine below_drewN ?_ _ | refine Below.setCell ?_ ?_ _ | refine below_via (by with_reducible assumption) ?_ ?_) | omega | (simp only [szs]; omega) | (simp only [szs] at *; omega))))).mono ?_); rintro e w' ⟨rfl, rfl⟩))
  go_ret
  exact ⟨rfl, by (repeat' (first | (with_reducible first | exact Below.refl _ _ | assumption | refine Below.alloc ?_ ?_ _ | refine Below.drew ?_ | refine below_drewN ?_ _ | refine Below.setCell ?_ ?_ _ | refine below_via (by with_reducible assumption) ?_ ?_) | omega | (simp only [szs]; omega) | (simp only [szs] at *; omega)))⟩
set_option maxRecDepth 4000 in
set_option maxHeartbeats 4000000 in
theorem reads_none (b off cap n y : Nat) (s : Int) (w : World)
   (hn : (n : Int) % 9223372036854775808 = (y : Int)) (hy : (y : Int) < 288230376287764481)
   (cr : ∀ w1, Below w.heap.size w w1 → Calls Tryd.prog 9 #[.slice (some ⟨b, off, none⟩) 8 cap] w1 fun e w' => e = .returned (.tuple #[.agg #[.int .u64 0, .int .u64 0], .iface 30 (.int .i64 3)]) ∧ Below w1.heap.size w1 w')
   (cn : ∀ w1, Below w.heap.size w w1 → Calls Tryd.prog 16 #[.slice (some ⟨b, off, none⟩) 8 cap] w1 fun e w' => e = .returned (.int .u64 n) ∧ w1 = w')
   (cs : ∀ w, Calls Tryd.prog 17 #[.int .u64 y] w fun e w' => e = .returned (.int .u64 s) ∧ w = w')
   (cq : ∀ w, Calls Tryd.prog 18 #[.int .u64 s] w fun e w' => e = .returned (.bool false) ∧ w = w') :
    Calls Tryd.prog 5 #[.slice (some ⟨b, off, none⟩) 8 cap] w fun e w' => e = .returned (.bool true) ∧ Below w.heap.size w w' := by
  have cu := upW
  have ec := fun w => eql_code w 3 3
  go_enter Tryd.func5, Tryd.ntmps5
  go_wp2_with (first | (first | (go_at_call 6; first | (with_reducible refine (cu _).mono ?_; rintro e w_cu ⟨rfl, b_cu⟩; have z_cu := b_cu.size; (try simp only [szs] at z_cu)))) | (go_at_call 9; (with_reducible refine (cr _ (by (repeat' (first | (with_reducible first | exact Below.refl _ _ | assumption | refine Below.alloc ?_ ?_ _ | refine Below.drew ?_ | refine below_drewN ?_ _ | refine Below.setCell ?_ ?_ _ | refine below_via (by with_reducible assumption) ?_ ?_) | omega | (simp only [szs]; omega) | (simp only [szs] at *; omega))))).mono ?_); rintro e w_cr ⟨rfl, b_cr⟩; have z_cr := b_cr.size; have hBx : Below w.heap.size w w_cr := by (repeat' (first | (with_reducible first | exact Below.refl _ _ | assumption | refine Below.alloc ?_ ?_ _ | refine Below.drew ?_ | refine below_drewN ?_ _ | refine Below.setCell ?_ ?_ _ | refine below_via (by with_reducible assumption) ?_ ?_) | omega | (simp only [szs]; omega) | (simp only [szs] at *; omega)))) | (go_at_call 16; (with_reducible refine (cn _ (by (repeat' (first | (with_reducible first | exact Below.refl _ _ | assumption | refine Below.alloc ?_ ?_ _ | refine Below.drew ?_ | refine below_drewN ?_ _ | refine Below.setCell ?_ ?_ _ | refine below_via (by with_reducible assumption) ?_ ?_) | omega | (simp only [szs]; omega) | (simp only [szs] at *; omega))))).mono ?_); rintro e w' ⟨rfl, rfl⟩) | (first | (go_at_call 17; first | (with_reducible refine (cs _).mono ?_; rintro e w' ⟨rfl, rfl⟩)) | (go_at_call 18; first | (with_reducible refine (cq _).mono ?_; rintro e w' ⟨rfl, rfl⟩))))
  go_ret
  exact ⟨rfl, by (repeat' (first | (with_reducible first | exact Below.refl _ _ | assumption | refine Below.alloc ?_ ?_ _ | refine Below.drew ?_ | refine below_drewN ?_ _ | refine Below.setCell ?_ ?_ _ | refine below_via (by with_reducible assumption) ?_ ?_) | omega | (simp only [szs]; omega) | (simp only [szs] at *; omega)))⟩
set_option maxRecDepth 4000 in
set_option maxHeartbeats 4000000 in
theorem reads_odd (b off cap n y : Nat) (s : Int) (w : World)
   (hn : (n : Int) % 9223372036854775808 = (y : Int)) (hy : (y : Int) < 288230376287764481) (hs : s = 0) (ho : (9223372036854775808 : Int) ≤ (n : Int))
   (cr : ∀ w1, Below w.heap.size w w1 → Calls Tryd.prog 9 #[.slice (some ⟨b, off, none⟩) 8 cap] w1 fun e w' => e = .returned (.tuple #[.agg #[.int .u64 0, .int .u64 0], .iface 30 (.int .i64 3)]) ∧ Below w1.heap.size w1 w')
   (cn : ∀ w1, Below w.heap.size w w1 → Calls Tryd.prog 16 #[.slice (some ⟨b, off, none⟩) 8 cap] w1 fun e w' => e = .returned (.int .u64 n) ∧ w1 = w')
   (cs : ∀ w, Calls Tryd.prog 17 #[.int .u64 y] w fun e w' => e = .returned (.int .u64 s) ∧ w = w')
   (cq : ∀ w, Calls Tryd.prog 18 #[.int .u64 s] w fun e w' => e = .returned (.bool true) ∧ w = w') :
    Calls Tryd.prog 5 #[.slice (some ⟨b, off, none⟩) 8 cap] w fun e w' => e = .returned (.bool true) ∧ Below w.heap.size w w' := by
  have cu := upW
  have ec := fun w => eql_code w 3 3
  subst hs
  go_enter Tryd.func5, Tryd.ntmps5
  go_wp2_with (first | (first | (go_at_call 6; first | (with_reducible refine (cu _).mono ?_; rintro e w_cu ⟨rfl, b_cu⟩; have z_cu := b_cu.size; (try simp only [szs] at z_cu)))) | (go_at_call 9; (with_reducible refine (cr _ (by (repeat' (first | (with_reducible first | exact Below.refl _ _ | assumption | refine Below.alloc ?_ ?_ _ | refine Below.drew ?_ | refine below_drewN ?_ _ | refine Below.setCell ?_ ?_ _ | refine below_via (by with_reducible assumption) ?_ ?_) | omega | (simp only [szs]; omega) | (simp only [szs] at *; omega))))).mono ?_); rintro e w_cr ⟨rfl, b_cr⟩; have z_cr := b_cr.size; have hBx : Below w.heap.size w w_cr := by (repeat' (first | (with_reducible first | exact Below.refl _ _ | assumption | refine Below.alloc ?_ ?_ _ | refine Below.drew ?_ | refine below_drewN ?_ _ | refine Below.setCell ?_ ?_ _ | refine below_via (by with_reducible assumption) ?_ ?_) | omega | (simp only [szs]; omega) | (simp only [szs] at *; omega)))) | (go_at_call 16; (with_reducible refine (cn _ (by (repeat' (first | (with_reducible first | exact Below.refl _ _ | assumption | refine Below.alloc ?_ ?_ _ | refine Below.drew ?_ | refine below_drewN ?_ _ | refine Below.setCell ?_ ?_ _ | refine below_via (by with_reducible assumption) ?_ ?_) | omega | (simp only [szs]; omega) | (simp only [szs] at *; omega))))).mono ?_); rintro e w' ⟨rfl, rfl⟩) | (first | (go_at_call 17; first | (with_reducible refine (cs _).mono ?_; rintro e w' ⟨rfl, rfl⟩)) | (go_at_call 18; first | (with_reducible refine (cq _).mono ?_; rintro e w' ⟨rfl, rfl⟩))))
  go_ret
  exact ⟨rfl, by (repeat' (first | (with_reducible first | exact Below.refl _ _ | assumption | refine Below.alloc ?_ ?_ _ | refine Below.drew ?_ | refine below_drewN ?_ _ | refine Below.setCell ?_ ?_ _ | refine below_via (by with_reducible assumption) ?_ ?_) | omega | (simp only [szs]; omega) | (simp only [szs] at *; omega)))⟩
set_option maxRecDepth 4000 in
set_option maxHeartbeats 8000000 in
theorem reads_yes (b off cap n y x : Nat) (s : Int) (o : Bool) (z pz : Nat → Nat) (w : World) (hY : Bys w b off 8 z) (hst : nums pz 8 = nums z 8) (hy : (y : Int) < 288230376287764481)
   (ho : decide ((9223372036854775808 : Int) ≤ (n : Int)) = o) (hx : decide ((x : Int) % 2 = 1) = o) (hso : (s == 0) = false ∨ ((s = 0) ∧ o = false))
   (hn : (n : Int) % 9223372036854775808 = (y : Int))
   (cr : ∀ w1, Below w.heap.size w w1 → Calls Tryd.prog 9 #[.slice (some ⟨b, off, none⟩) 8 cap] w1 fun e w' => e = .returned (.tuple #[.agg #[.int .u64 x, .int .u64 y], .nilIface]) ∧ Below w1.heap.size w1 w')
   (cn : ∀ w1, Below w.heap.size w w1 → Calls Tryd.prog 16 #[.slice (some ⟨b, off, none⟩) 8 cap] w1 fun e w' => e = .returned (.int .u64 n) ∧ w1 = w')
   (cs : ∀ w, Calls Tryd.prog 17 #[.int .u64 y] w fun e w' => e = .returned (.int .u64 s) ∧ w = w')
   (cq : ∀ w, Calls Tryd.prog 18 #[.int .u64 s] w fun e w' => e = .returned (.bool true) ∧ w = w')
   (ci : ∀ w, Calls Tryd.prog 14 #[.agg #[.int .u64 x, .int .u64 y]] w fun e w' => e = .returned (.bool true) ∧ Below w.heap.size w w')
   (rb : ∀ w, Calls Tryd.prog 15 #[.agg #[.int .u64 x, .int .u64 y]] w fun e w' => ∃ g, e = .returned (.slice (some ⟨g, 0, none⟩) 8 8) ∧ w.heap.size ≤ g ∧ Bys w' g 0 8 pz ∧ Below w.heap.size w w') :
    Calls Tryd.prog 5 #[.slice (some ⟨b, off, none⟩) 8 cap] w fun e w' => e = .returned (.bool true) ∧ Below w.heap.size w w' := by
  have cu := upW
  have hv : Hid (∀ g off cap w', Bys w' g off 8 z → (convert 34 9 (.slice (some ⟨g, off, none⟩) 8 cap)).run Tryd.prog w' = .ok (.string (strOfNums (nums z 8))) w') := fun g off cap w' h => bys_str g off 8 cap z w' h
  have hv2 : Hid (∀ g w', Bys w' g 0 8 pz → (convert 34 9 (.slice (some ⟨g, 0, none⟩) 8 8)).run Tryd.prog w' = .ok (.string (strOfNums (nums z 8))) w') := fun g w' h => by rw [← hst]; exact bys_str g 0 8 8 pz w' h
  generalize strOfNums (nums z 8) = st at hv hv2
  clear hst
  rcases hso with hs | ⟨rfl, rfl⟩
  · cases o
    · have o2 : (x : Int) % 2 = 0 := by have := of_decide_eq_false hx; omega
      have o3 : Int.tmod (x : Int) 2 = 0 := by rw [Int.tmod_eq_emod_of_nonneg (by omega)]; exact o2
      clear hx
      have hs2 : (s != 0) = true := by simp [bne, hs]
      go_enter Tryd.func5, Tryd.ntmps5
      go_upto_region 14 with (first | (first | (go_at_call 6; first | (with_reducible refine (cu _).mono ?_; rintro e w_cu ⟨rfl, b_cu⟩; have z_cu := b_cu.size; (try simp only [szs] at z_cu)))) | (go_at_call 9; (with_reducible refine (cr _ (by (repeat' (first | (with_reducible first | exact Below.refl _ _ | assumption | refine Below.alloc ?_ ?_ _ | refine Below.drew ?_ | refine below_drewN ?_ _ | refine Below.setCell ?_ ?_ _ | refine below_via (by with_reducible assumption) ?_ ?_) | omega | (simp only [szs]; omega) | (simp only [szs] at *; omega))))).mono ?_); rintro e w_cr ⟨rfl, b_cr⟩; have z_cr := b_cr.size; have hBx : Below w.heap.size w w_cr := by (repeat' (first | (with_reducible first | exact Below.refl _ _ | assumption | refine Below.alloc ?_ ?_ _ | refine Below.drew ?_ | refine below_drewN ?_ _ | refine Below.setCell ?_ ?_ _ | refine below_via (by with_reducible assumption) ?_ ?_) | omega | (simp only [szs]; omega) | (simp only [szs] at *; omega)))) | (go_at_call 16; (with_reducible refine (cn _ (by (repeat' (first | (with_reducible first | exact Below.refl _ _ | assumption | refine Below.alloc ?_ ?_ _ | refine Below.drew ?_ | refine below_drewN ?_ _ | refine Below.setCell ?_ ?_ _ | refine below_via (by with_reducible assumption) ?_ ?_) | omega | (simp only [szs]; omega) | (simp only [szs] at *; omega))))).mono ?_); rintro e w' ⟨rfl, rfl⟩) | (first | (go_at_call 17; first | (with_reducible refine (cs _).mono ?_; rintro e w' ⟨rfl, rfl⟩)) | (go_at_call 18; first | (with_reducible refine (cq _).mono ?_; rintro e w' ⟨rfl, rfl⟩))))
      have tx : Two (w_cr.alloc (.cells #[.int .u64 x, .int .u64 y] 25)) w_cr.heap.size (.int .u64 x) (.int .u64 y) := by (repeat' (first | (with_reducible first | assumption | exact Two.own (by with_reducible assumption) | refine Two.set ?_ _ _ | refine Own2.set ?_ _ _ | refine Two.drew ?_ | refine Two.drewN ?_ _ | refine Own2.drew ?_ | refine Own2.drewN ?_ _ | (refine Two.new ?_; simp only [szs]; done) | (refine Own2.new ?_; simp only [szs]; done) | refine Two.alloc ?_ _ | refine Own2.alloc ?_ _ | refine Two.far ?_ ?_ _ _ | refine Own2.far ?_ ?_ _ _ | refine Two.via (by with_reducible assumption) ?_ ?_ | refine Own2.via (by with_reducible assumption) ?_ ?_) | omega | (simp only [szs]; omega)))
      have hB : Below w.heap.size w (w_cr.alloc (.cells #[.int .u64 x, .int .u64 y] 25)) := by (repeat' (first | (with_reducible first | exact Below.refl _ _ | assumption | refine Below.alloc ?_ ?_ _ | refine Below.drew ?_ | refine below_drewN ?_ _ | refine Below.setCell ?_ ?_ _ | refine below_via (by with_reducible assumption) ?_ ?_) | omega | (simp only [szs]; omega) | (simp only [szs] at *; omega)))
      have hYc : Bys (w_cr.alloc (.cells #[.int .u64 x, .int .u64 y] 25)) b off 8 z := hY.below hB hY.lt
      generalize (w_cr.alloc (.cells #[.int .u64 x, .int .u64 y] 25)) = w4 at tx hB hYc ⊢
      generalize w_cr.heap.size = bx at tx ⊢
      clear cu cr cn cs cq b_cu b_cr z_cu z_cr hBx
      have ⟨x1, x2, x3, x4, x5⟩ := tx
      have lb := hYc.lt
      refine wp_region_noPanic ?_
      refine wp_region_held_drew (S := (fun w' => w'.cell? ⟨bx, 0, none⟩ = some (.int .u64 x) ∧ w'.cell? ⟨bx, 1, none⟩ = some (.int .u64 y) ∧ (convert 34 9 (.slice (some ⟨b, off, none⟩) 8 cap)).run Tryd.prog w' = .ok (.string st) w')) (by kernel_rfl) (by first | exact ⟨x1, x2, hv.out _ _ _ _ hYc.drew⟩) (fun hHeld => ?_)
      refine wpAnyH_take (i := 0) (oi := ?oi_1) (v := ?v_1) ?hi_1 ?hs_1 ?hf_1 ?hr_1 ?hQ_1 (Or.inl ⟨?hw_1, ?hy_1⟩) ?hS_1 ?hrest_1
      case hi_1 => (simp only [List.getElem?_toArray, List.getElem?_cons_succ, List.getElem?_cons_zero]; exact rfl)
      case hs_1 => kernel_rfl
      case hf_1 => kernel_rfl
      case hr_1 => kernel_rfl
      case hQ_1 => exact fun _ _ _ h => h
      case hw_1 => rfl
      case hS_1 => assumption
      case hy_1 => (intro w hSw; (try dsimp only at hSw); go_simp; try with_reducible rfl)
      try simp only [Act.put, List.setIfInBounds_toArray, List.set_cons_zero, List.set_cons_succ]
      refine wpAnyH_take (i := 1) (oi := ?oi_2) (v := ?v_2) ?hi_2 ?hs_2 ?hf_2 ?hr_2 ?hQ_2 (Or.inl ⟨?hw_2, ?hy_2⟩) ?hS_2 ?hrest_2
      case hi_2 => (simp only [List.getElem?_toArray, List.getElem?_cons_succ, List.getElem?_cons_zero]; exact rfl)
      case hs_2 => kernel_rfl
      case hf_2 => kernel_rfl
      case hr_2 => kernel_rfl
      case hQ_2 => exact fun _ _ _ h => h
      case hw_2 => rfl
      case hS_2 => assumption
      case hy_2 => (intro w hSw; (try dsimp only at hSw); go_simp; try with_reducible rfl)
      try simp only [Act.put, List.setIfInBounds_toArray, List.set_cons_zero, List.set_cons_succ]
      refine wpAnyH_take (i := 2) (oi := ?oi_3) (v := ?v_3) ?hi_3 ?hs_3 ?hf_3 ?hr_3 ?hQ_3 (Or.inl ⟨?hw_3, ?hy_3⟩) ?hS_3 ?hrest_3
      case hi_3 => (simp only [List.getElem?_toArray, List.getElem?_cons_succ, List.getElem?_cons_zero]; exact rfl)
      case hs_3 => kernel_rfl
      case hf_3 => kernel_rfl
      case hr_3 => kernel_rfl
      case hQ_3 => exact fun _ _ _ h => h
      case hw_3 => rfl
      case hS_3 => assumption
      case hy_3 => (intro w hSw; (try dsimp only at hSw); go_simp; try with_reducible rfl)
      try simp only [Act.put, List.setIfInBounds_toArray, List.set_cons_zero, List.set_cons_succ]
      refine wpAnyH_take (i := 3) (oi := ?oi_4) (v := ?v_4) ?hi_4 ?hs_4 ?hf_4 ?hr_4 ?hQ_4 (Or.inl ⟨?hw_4, ?hy_4⟩) ?hS_4 ?hrest_4
      case hi_4 => (simp only [List.getElem?_toArray, List.getElem?_cons_succ, List.getElem?_cons_zero]; exact rfl)
      case hs_4 => kernel_rfl
      case hf_4 => kernel_rfl
      case hr_4 => kernel_rfl
      case hQ_4 => exact fun _ _ _ h => h
      case hw_4 => rfl
      case hS_4 => assumption
      case hy_4 => (intro w hSw; (try dsimp only at hSw); go_simp; try with_reducible rfl)
      try simp only [Act.put, List.setIfInBounds_toArray, List.set_cons_zero, List.set_cons_succ]
      refine wpAnyH_take (i := 4) (oi := ?oi_5) (v := ?v_5) ?hi_5 ?hs_5 ?hf_5 ?hr_5 ?hQ_5 (Or.inl ⟨?hw_5, ?hy_5⟩) ?hS_5 ?hrest_5
      case hi_5 => (simp only [List.getElem?_toArray, List.getElem?_cons_succ, List.getElem?_cons_zero]; exact rfl)
      case hs_5 => kernel_rfl
      case hf_5 => kernel_rfl
      case hr_5 => kernel_rfl
      case hQ_5 => exact fun _ _ _ h => h
      case hw_5 => rfl
      case hS_5 => assumption
      case hy_5 => (intro w hSw; (try dsimp only at hSw); go_simp; try with_reducible rfl)
      try simp only [Act.put, List.setIfInBounds_toArray, List.set_cons_zero, List.set_cons_succ]
      refine wpAnyH_take (i := 5) (oi := ?oi_6) (v := ?v_6) ?hi_6 ?hs_6 ?hf_6 ?hr_6 ?hQ_6 (Or.inl ⟨?hw_6, ?hy_6⟩) ?hS_6 ?hrest_6
      case hi_6 => (simp only [List.getElem?_toArray, List.getElem?_cons_succ, List.getElem?_cons_zero]; exact rfl)
      case hs_6 => kernel_rfl
      case hf_6 => kernel_rfl
      case hr_6 => kernel_rfl
      case hQ_6 => exact fun _ _ _ h => h
      case hw_6 => rfl
      case hS_6 => assumption
      case hy_6 => (intro w hSw; (try dsimp only at hSw); go_simp; try with_reducible rfl)
      try simp only [Act.put, List.setIfInBounds_toArray, List.set_cons_zero, List.set_cons_succ]
      refine wpAnyH_take (i := 6) (oi := ?oi_7) (v := ?v_7) ?hi_7 ?hs_7 ?hf_7 ?hr_7 ?hQ_7 (Or.inl ⟨?hw_7, ?hy_7⟩) ?hS_7 ?hrest_7
      case hi_7 => (simp only [List.getElem?_toArray, List.getElem?_cons_succ, List.getElem?_cons_zero]; exact rfl)
      case hs_7 => kernel_rfl
      case hf_7 => kernel_rfl
      case hr_7 => kernel_rfl
      case hQ_7 => exact fun _ _ _ h => h
      case hw_7 => rfl
      case hS_7 => assumption
      case hy_7 => (intro w hSw; (try dsimp only at hSw); go_simp; try with_reducible rfl)
      try simp only [Act.put, List.setIfInBounds_toArray, List.set_cons_zero, List.set_cons_succ]
      refine wpAnyH_ready (rs := [7]) (by kernel_rfl) (by simp) ?_
      refine (AllReadyH.cons (o := ?o_88) ?ho_88 (fun K hK => ?st_88) AllReadyH.nil)
      case ho_88 => (simp only [List.getElem?_toArray, List.getElem?_cons_succ, List.getElem?_cons_zero]; exact rfl)
      go_simp
      (go_at_call 14; (with_reducible refine Calls.mono (ci _) ?_); rintro e w5 ⟨rfl, b5⟩)
      have z5 := b5.size
      simp only [World.size_drew] at z5 b5
      have k2 := (bcell b5).1 bx
      have c3 := k2 0 (by omega); have c4 := k2 1 (by omega)
      have y5 : Bys w5 b off 8 z := (hYc.drew).below b5 (by omega)
      clear k2
      refine hK.out _ _ (by first | exact ⟨by simp [*], by simp [*], hv.out _ _ _ _ y5⟩) (fun hHeld => ?_)
      clear hK K
      try simp only [Act.put, List.setIfInBounds_toArray, List.set_cons_zero, List.set_cons_succ]
      refine wpAnyH_take (i := 8) (oi := ?oi_8) (v := ?v_8) ?hi_8 ?hs_8 ?hf_8 ?hr_8 ?hQ_8 (Or.inl ⟨?hw_8, ?hy_8⟩) ?hS_8 ?hrest_8
      case hi_8 => (simp only [List.getElem?_toArray, List.getElem?_cons_succ, List.getElem?_cons_zero]; exact rfl)
      case hs_8 => kernel_rfl
      case hf_8 => kernel_rfl
      case hr_8 => kernel_rfl
      case hQ_8 => exact fun _ _ _ h => h
      case hw_8 => rfl
      case hS_8 => assumption
      case hy_8 => (intro w hSw; (try dsimp only at hSw); go_simp; try with_reducible rfl)
      try simp only [Act.put, List.setIfInBounds_toArray, List.set_cons_zero, List.set_cons_succ]
      refine wpAnyH_take (i := 9) (oi := ?oi_9) (v := ?v_9) ?hi_9 ?hs_9 ?hf_9 ?hr_9 ?hQ_9 (Or.inl ⟨?hw_9, ?hy_9⟩) ?hS_9 ?hrest_9
      case hi_9 => (simp only [List.getElem?_toArray, List.getElem?_cons_succ, List.getElem?_cons_zero]; exact rfl)
      case hs_9 => kernel_rfl
      case hf_9 => kernel_rfl
      case hr_9 => kernel_rfl
      case hQ_9 => exact fun _ _ _ h => h
      case hw_9 => rfl
      case hS_9 => assumption
      case hy_9 => (intro w hSw; (try dsimp only at hSw); go_simp; try with_reducible rfl)
      try simp only [Act.put, List.setIfInBounds_toArray, List.set_cons_zero, List.set_cons_succ]
      refine wpAnyH_take (i := 10) (oi := ?oi_10) (v := ?v_10) ?hi_10 ?hs_10 ?hf_10 ?hr_10 ?hQ_10 (Or.inl ⟨?hw_10, ?hy_10⟩) ?hS_10 ?hrest_10
      case hi_10 => (simp only [List.getElem?_toArray, List.getElem?_cons_succ, List.getElem?_cons_zero]; exact rfl)
      case hs_10 => kernel_rfl
      case hf_10 => kernel_rfl
      case hr_10 => kernel_rfl
      case hQ_10 => exact fun _ _ _ h => h
      case hw_10 => rfl
      case hS_10 => assumption
      case hy_10 => (intro w hSw; (try dsimp only at hSw); go_simp; try with_reducible rfl)
      try simp only [Act.put, List.setIfInBounds_toArray, List.set_cons_zero, List.set_cons_succ]
      refine wpAnyH_take (i := 11) (oi := ?oi_11) (v := ?v_11) ?hi_11 ?hs_11 ?hf_11 ?hr_11 ?hQ_11 (Or.inl ⟨?hw_11, ?hy_11⟩) ?hS_11 ?hrest_11
      case hi_11 => (simp only [List.getElem?_toArray, List.getElem?_cons_succ, List.getElem?_cons_zero]; exact rfl)
      case hs_11 => kernel_rfl
      case hf_11 => kernel_rfl
      case hr_11 => kernel_rfl
      case hQ_11 => exact fun _ _ _ h => h
      case hw_11 => rfl
      case hS_11 => assumption
      case hy_11 => (intro w hSw; (try dsimp only at hSw); go_simp; try with_reducible rfl)
      try simp only [Act.put, List.setIfInBounds_toArray, List.set_cons_zero, List.set_cons_succ]
      refine wpAnyH_take (i := 12) (oi := ?oi_12) (v := ?v_12) ?hi_12 ?hs_12 ?hf_12 ?hr_12 ?hQ_12 (Or.inl ⟨?hw_12, ?hy_12⟩) ?hS_12 ?hrest_12
      case hi_12 => (simp only [List.getElem?_toArray, List.getElem?_cons_succ, List.getElem?_cons_zero]; exact rfl)
      case hs_12 => kernel_rfl
      case hf_12 => kernel_rfl
      case hr_12 => kernel_rfl
      case hQ_12 => exact fun _ _ _ h => h
      case hw_12 => rfl
      case hS_12 => assumption
      case hy_12 => (intro w hSw; (try dsimp only at hSw); go_simp; try with_reducible rfl)
      try simp only [Act.put, List.setIfInBounds_toArray, List.set_cons_zero, List.set_cons_succ]
      refine wpAnyH_take (i := 13) (oi := ?oi_13) (v := ?v_13) ?hi_13 ?hs_13 ?hf_13 ?hr_13 ?hQ_13 (Or.inl ⟨?hw_13, ?hy_13⟩) ?hS_13 ?hrest_13
      case hi_13 => (simp only [List.getElem?_toArray, List.getElem?_cons_succ, List.getElem?_cons_zero]; exact rfl)
      case hs_13 => kernel_rfl
      case hf_13 => kernel_rfl
      case hr_13 => kernel_rfl
      case hQ_13 => exact fun _ _ _ h => h
      case hw_13 => rfl
      case hS_13 => assumption
      case hy_13 => (intro w hSw; (try dsimp only at hSw); go_simp; try with_reducible rfl)
      try simp only [Act.put, List.setIfInBounds_toArray, List.set_cons_zero, List.set_cons_succ]
      refine wpAnyH_take (i := 14) (oi := ?oi_14) (v := ?v_14) ?hi_14 ?hs_14 ?hf_14 ?hr_14 ?hQ_14 (Or.inl ⟨?hw_14, ?hy_14⟩) ?hS_14 ?hrest_14
      case hi_14 => (simp only [List.getElem?_toArray, List.getElem?_cons_succ, List.getElem?_cons_zero]; exact rfl)
      case hs_14 => kernel_rfl
      case hf_14 => kernel_rfl
      case hr_14 => kernel_rfl
      case hQ_14 => exact fun _ _ _ h => h
      case hw_14 => rfl
      case hS_14 => assumption
      case hy_14 => (intro w hSw; (try dsimp only at hSw); go_simp; try with_reducible rfl)
      try simp only [Act.put, List.setIfInBounds_toArray, List.set_cons_zero, List.set_cons_succ]
      refine wpAnyH_take (i := 15) (oi := ?oi_15) (v := ?v_15) ?hi_15 ?hs_15 ?hf_15 ?hr_15 ?hQ_15 (Or.inl ⟨?hw_15, ?hy_15⟩) ?hS_15 ?hrest_15
      case hi_15 => (simp only [List.getElem?_toArray, List.getElem?_cons_succ, List.getElem?_cons_zero]; exact rfl)
      case hs_15 => kernel_rfl
      case hf_15 => kernel_rfl
      case hr_15 => kernel_rfl
      case hQ_15 => exact fun _ _ _ h => h
      case hw_15 => rfl
      case hS_15 => assumption
      case hy_15 => (intro w hSw; (try dsimp only at hSw); go_simp; try with_reducible rfl)
      try simp only [Act.put, List.setIfInBounds_toArray, List.set_cons_zero, List.set_cons_succ]
      refine wpAnyH_take (i := 16) (oi := ?oi_16) (v := ?v_16) ?hi_16 ?hs_16 ?hf_16 ?hr_16 ?hQ_16 (Or.inl ⟨?hw_16, ?hy_16⟩) ?hS_16 ?hrest_16
      case hi_16 => (simp only [List.getElem?_toArray, List.getElem?_cons_succ, List.getElem?_cons_zero]; exact rfl)
      case hs_16 => kernel_rfl
      case hf_16 => kernel_rfl
      case hr_16 => kernel_rfl
      case hQ_16 => exact fun _ _ _ h => h
      case hw_16 => rfl
      case hS_16 => assumption
      case hy_16 => (intro w hSw; (try dsimp only at hSw); go_simp; try with_reducible rfl)
      try simp only [Act.put, List.setIfInBounds_toArray, List.set_cons_zero, List.set_cons_succ]
      refine wpAnyH_take (i := 17) (oi := ?oi_17) (v := ?v_17) ?hi_17 ?hs_17 ?hf_17 ?hr_17 ?hQ_17 (Or.inl ⟨?hw_17, ?hy_17⟩) ?hS_17 ?hrest_17
      case hi_17 => (simp only [List.getElem?_toArray, List.getElem?_cons_succ, List.getElem?_cons_zero]; exact rfl)
      case hs_17 => kernel_rfl
      case hf_17 => kernel_rfl
      case hr_17 => kernel_rfl
      case hQ_17 => exact fun _ _ _ h => h
      case hw_17 => rfl
      case hS_17 => assumption
      case hy_17 => (intro w hSw; (try dsimp only at hSw); go_simp; try with_reducible rfl)
      try simp only [Act.put, List.setIfInBounds_toArray, List.set_cons_zero, List.set_cons_succ]
      refine wpAnyH_take (i := 18) (oi := ?oi_18) (v := ?v_18) ?hi_18 ?hs_18 ?hf_18 ?hr_18 ?hQ_18 (Or.inl ⟨?hw_18, ?hy_18⟩) ?hS_18 ?hrest_18
      case hi_18 => (simp only [List.getElem?_toArray, List.getElem?_cons_succ, List.getElem?_cons_zero]; exact rfl)
      case hs_18 => kernel_rfl
      case hf_18 => kernel_rfl
      case hr_18 => kernel_rfl
      case hQ_18 => exact fun _ _ _ h => h
      case hw_18 => rfl
      case hS_18 => assumption
      case hy_18 => (intro w hSw; (try dsimp only at hSw); go_simp; try with_reducible rfl)
      try simp only [Act.put, List.setIfInBounds_toArray, List.set_cons_zero, List.set_cons_succ]
      refine wpAnyH_take (i := 19) (oi := ?oi_19) (v := ?v_19) ?hi_19 ?hs_19 ?hf_19 ?hr_19 ?hQ_19 (Or.inl ⟨?hw_19, ?hy_19⟩) ?hS_19 ?hrest_19
      case hi_19 => (simp only [List.getElem?_toArray, List.getElem?_cons_succ, List.getElem?_cons_zero]; exact rfl)
      case hs_19 => kernel_rfl
      case hf_19 => kernel_rfl
      case hr_19 => kernel_rfl
      case hQ_19 => exact fun _ _ _ h => h
      case hw_19 => rfl
      case hS_19 => assumption
      case hy_19 => (intro w hSw; (try dsimp only at hSw); go_simp; try with_reducible rfl)
      try simp only [Act.put, List.setIfInBounds_toArray, List.set_cons_zero, List.set_cons_succ]
      refine wpAnyH_take (i := 20) (oi := ?oi_20) (v := ?v_20) ?hi_20 ?hs_20 ?hf_20 ?hr_20 ?hQ_20 (Or.inl ⟨?hw_20, ?hy_20⟩) ?hS_20 ?hrest_20
      case hi_20 => (simp only [List.getElem?_toArray, List.getElem?_cons_succ, List.getElem?_cons_zero]; exact rfl)
      case hs_20 => kernel_rfl
      case hf_20 => kernel_rfl
      case hr_20 => kernel_rfl
      case hQ_20 => exact fun _ _ _ h => h
      case hw_20 => rfl
      case hS_20 => assumption
      case hy_20 => (intro w hSw; (try dsimp only at hSw); go_simp; try with_reducible rfl)
      try simp only [Act.put, List.setIfInBounds_toArray, List.set_cons_zero, List.set_cons_succ]
      refine wpAnyH_take (i := 21) (oi := ?oi_21) (v := ?v_21) ?hi_21 ?hs_21 ?hf_21 ?hr_21 ?hQ_21 (Or.inl ⟨?hw_21, ?hy_21⟩) ?hS_21 ?hrest_21
      case hi_21 => (simp only [List.getElem?_toArray, List.getElem?_cons_succ, List.getElem?_cons_zero]; exact rfl)
      case hs_21 => kernel_rfl
      case hf_21 => kernel_rfl
      case hr_21 => kernel_rfl
      case hQ_21 => exact fun _ _ _ h => h
      case hw_21 => rfl
      case hS_21 => assumption
      case hy_21 => (intro w hSw; (try dsimp only at hSw); go_simp; try with_reducible rfl)
      try simp only [Act.put, List.setIfInBounds_toArray, List.set_cons_zero, List.set_cons_succ]
      refine wpAnyH_take (i := 22) (oi := ?oi_22) (v := ?v_22) ?hi_22 ?hs_22 ?hf_22 ?hr_22 ?hQ_22 (Or.inl ⟨?hw_22, ?hy_22⟩) ?hS_22 ?hrest_22
      case hi_22 => (simp only [List.getElem?_toArray, List.getElem?_cons_succ, List.getElem?_cons_zero]; exact rfl)
      case hs_22 => kernel_rfl
      case hf_22 => kernel_rfl
      case hr_22 => kernel_rfl
      case hQ_22 => exact fun _ _ _ h => h
      case hw_22 => rfl
      case hS_22 => assumption
      case hy_22 => (intro w hSw; (try dsimp only at hSw); go_simp; try with_reducible rfl)
      try simp only [Act.put, List.setIfInBounds_toArray, List.set_cons_zero, List.set_cons_succ]
      refine wpAnyH_take (i := 23) (oi := ?oi_23) (v := ?v_23) ?hi_23 ?hs_23 ?hf_23 ?hr_23 ?hQ_23 (Or.inl ⟨?hw_23, ?hy_23⟩) ?hS_23 ?hrest_23
      case hi_23 => (simp only [List.getElem?_toArray, List.getElem?_cons_succ, List.getElem?_cons_zero]; exact rfl)
      case hs_23 => kernel_rfl
      case hf_23 => kernel_rfl
      case hr_23 => kernel_rfl
      case hQ_23 => exact fun _ _ _ h => h
      case hw_23 => rfl
      case hS_23 => assumption
      case hy_23 => (intro w hSw; (try dsimp only at hSw); go_simp; try with_reducible rfl)
      try simp only [Act.put, List.setIfInBounds_toArray, List.set_cons_zero, List.set_cons_succ]
      refine wpAnyH_take (i := 24) (oi := ?oi_24) (v := ?v_24) ?hi_24 ?hs_24 ?hf_24 ?hr_24 ?hQ_24 (Or.inl ⟨?hw_24, ?hy_24⟩) ?hS_24 ?hrest_24
      case hi_24 => (simp only [List.getElem?_toArray, List.getElem?_cons_succ, List.getElem?_cons_zero]; exact rfl)
      case hs_24 => kernel_rfl
      case hf_24 => kernel_rfl
      case hr_24 => kernel_rfl
      case hQ_24 => exact fun _ _ _ h => h
      case hw_24 => rfl
      case hS_24 => assumption
      case hy_24 => (intro w hSw; (try dsimp only at hSw); go_simp; try with_reducible rfl)
      try simp only [Act.put, List.setIfInBounds_toArray, List.set_cons_zero, List.set_cons_succ]
      refine wpAnyH_take (i := 27) (oi := ?oi_25) (v := ?v_25) ?hi_25 ?hs_25 ?hf_25 ?hr_25 ?hQ_25 (Or.inl ⟨?hw_25, ?hy_25⟩) ?hS_25 ?hrest_25
      case hi_25 => (simp only [List.getElem?_toArray, List.getElem?_cons_succ, List.getElem?_cons_zero]; exact rfl)
      case hs_25 => kernel_rfl
      case hf_25 => kernel_rfl
      case hr_25 => kernel_rfl
      case hQ_25 => exact fun _ _ _ h => h
      case hw_25 => rfl
      case hS_25 => assumption
      case hy_25 => (intro w hSw; (try dsimp only at hSw); go_simp; try with_reducible rfl)
      try simp only [Act.put, List.setIfInBounds_toArray, List.set_cons_zero, List.set_cons_succ]
      refine wpAnyH_take (i := 28) (oi := ?oi_26) (v := ?v_26) ?hi_26 ?hs_26 ?hf_26 ?hr_26 ?hQ_26 (Or.inl ⟨?hw_26, ?hy_26⟩) ?hS_26 ?hrest_26
      case hi_26 => (simp only [List.getElem?_toArray, List.getElem?_cons_succ, List.getElem?_cons_zero]; exact rfl)
      case hs_26 => kernel_rfl
      case hf_26 => kernel_rfl
      case hr_26 => kernel_rfl
      case hQ_26 => exact fun _ _ _ h => h
      case hw_26 => rfl
      case hS_26 => assumption
      case hy_26 => (intro w hSw; (try dsimp only at hSw); go_simp; try with_reducible rfl)
      try simp only [Act.put, List.setIfInBounds_toArray, List.set_cons_zero, List.set_cons_succ]
      refine wpAnyH_ready (rs := [25]) (by kernel_rfl) (by simp) ?_
      refine (AllReadyH.cons (o := ?o_89) ?ho_89 (fun K hK => ?st_89) AllReadyH.nil)
      case ho_89 => (simp only [List.getElem?_toArray, List.getElem?_cons_succ, List.getElem?_cons_zero]; exact rfl)
      go_simp
      (go_at_call 15; (with_reducible refine Calls.mono (rb _) ?_); rintro e w6 ⟨g', rfl, hg', hy', b6⟩)
      have z6 := b6.size
      have k3 := (bcell b6).1 bx
      have c5 := k3 0 (by omega); have c6 := k3 1 (by omega)
      have y6 : Bys w6 b off 8 z := y5.below b6 (by omega)
      have e0 := hv2.out _ _ hy'
      clear k3
      refine hK.out _ _ (by first | exact ⟨by simp [*], by simp [*], hv.out _ _ _ _ y6⟩) (fun hHeld => ?_)
      clear hK K
      try simp only [Act.put, List.setIfInBounds_toArray, List.set_cons_zero, List.set_cons_succ]
      refine wpAnyH_ready (rs := [26]) (by kernel_rfl) (by simp) ?_
      refine (AllReadyH.cons (o := ?o_90) ?ho_90 (fun K hK => ?st_90) AllReadyH.nil)
      case ho_90 => (simp only [List.getElem?_toArray, List.getElem?_cons_succ, List.getElem?_cons_zero]; exact rfl)
      go_simp
      refine hK.out _ _ (by first | exact ⟨by simp [*], by simp [*], hv.out _ _ _ _ y6⟩) (fun hHeld => ?_)
      clear hK K
      try simp only [Act.put, List.setIfInBounds_toArray, List.set_cons_zero, List.set_cons_succ]
      refine wpAnyH_take (i := 29) (oi := ?oi_27) (v := ?v_27) ?hi_27 ?hs_27 ?hf_27 ?hr_27 ?hQ_27 (Or.inl ⟨?hw_27, ?hy_27⟩) ?hS_27 ?hrest_27
      case hi_27 => (simp only [List.getElem?_toArray, List.getElem?_cons_succ, List.getElem?_cons_zero]; exact rfl)
      case hs_27 => kernel_rfl
      case hf_27 => kernel_rfl
      case hr_27 => kernel_rfl
      case hQ_27 => exact fun _ _ _ h => h
      case hw_27 => rfl
      case hS_27 => assumption
      case hy_27 => (intro w hSw; (try dsimp only at hSw); go_simp; try with_reducible rfl)
      try simp only [Act.put, List.setIfInBounds_toArray, List.set_cons_zero, List.set_cons_succ]
      refine wpAnyH_take (i := 30) (oi := ?oi_28) (v := ?v_28) ?hi_28 ?hs_28 ?hf_28 ?hr_28 ?hQ_28 (Or.inl ⟨?hw_28, ?hy_28⟩) ?hS_28 ?hrest_28
      case hi_28 => (simp only [List.getElem?_toArray, List.getElem?_cons_succ, List.getElem?_cons_zero]; exact rfl)
      case hs_28 => kernel_rfl
      case hf_28 => kernel_rfl
      case hr_28 => kernel_rfl
      case hQ_28 => exact fun _ _ _ h => h
      case hw_28 => rfl
      case hS_28 => assumption
      case hy_28 => (intro w hSw; (try dsimp only at hSw); go_simp; try with_reducible rfl)
      try simp only [Act.put, List.setIfInBounds_toArray, List.set_cons_zero, List.set_cons_succ]
      refine wpAnyH_take (i := 31) (oi := ?oi_29) (v := ?v_29) ?hi_29 ?hs_29 ?hf_29 ?hr_29 ?hQ_29 (Or.inl ⟨?hw_29, ?hy_29⟩) ?hS_29 ?hrest_29
      case hi_29 => (simp only [List.getElem?_toArray, List.getElem?_cons_succ, List.getElem?_cons_zero]; exact rfl)
      case hs_29 => kernel_rfl
      case hf_29 => kernel_rfl
      case hr_29 => kernel_rfl
      case hQ_29 => exact fun _ _ _ h => h
      case hw_29 => rfl
      case hS_29 => assumption
      case hy_29 => (intro w hSw; (try dsimp only at hSw); go_simp; try with_reducible rfl)
      try simp only [Act.put, List.setIfInBounds_toArray, List.set_cons_zero, List.set_cons_succ]
      refine wpAnyH_done (by kernel_rfl) ?_ _
      refine NoPanic.normal ?_
      go_wp2
      go_ret
      have zB := hB.size
      exact ⟨rfl, by (repeat' (first | (with_reducible first | exact Below.refl _ _ | assumption | refine Below.alloc ?_ ?_ _ | refine Below.drew ?_ | refine below_drewN ?_ _ | refine Below.setCell ?_ ?_ _ | refine below_via (by with_reducible assumption) ?_ ?_) | omega | (simp only [szs]; omega) | (simp only [szs] at *; omega)))⟩
    · have o1 : (9223372036854775808 : Int) ≤ (n : Int) := of_decide_eq_true ho
      have o2 : (x : Int) % 2 = 1 := of_decide_eq_true hx
      have o3 : Int.tmod (x : Int) 2 = 1 := by rw [Int.tmod_eq_emod_of_nonneg (by omega)]; exact o2
      clear ho hx
      have hs2 : (s != 0) = true := by simp [bne, hs]
      go_enter Tryd.func5, Tryd.ntmps5
      go_upto_region 14 with (first | (first | (go_at_call 6; first | (with_reducible refine (cu _).mono ?_; rintro e w_cu ⟨rfl, b_cu⟩; have z_cu := b_cu.size; (try simp only [szs] at z_cu)))) | (go_at_call 9; (with_reducible refine (cr _ (by (repeat' (first | (with_reducible first | exact Below.refl _ _ | assumption | refine Below.alloc ?_ ?_ _ | refine Below.drew ?_ | refine below_drewN ?_ _ | refine Below.setCell ?_ ?_ _ | refine below_via (by with_reducible assumption) ?_ ?_) | omega | (simp only [szs]; omega) | (simp only [szs] at *; omega))))).mono ?_); rintro e w_cr ⟨rfl, b_cr⟩; have z_cr := b_cr.size; have hBx : Below w.heap.size w w_cr := by (repeat' (first | (with_reducible first | exact Below.refl _ _ | assumption | refine Below.alloc ?_ ?_ _ | refine Below.drew ?_ | refine below_drewN ?_ _ | refine Below.setCell ?_ ?_ _ | refine below_via (by with_reducible assumption) ?_ ?_) | omega | (simp only [szs]; omega) | (simp only [szs] at *; omega)))) | (go_at_call 16; (with_reducible refine (cn _ (by (repeat' (first | (with_reducible first | exact Below.refl _ _ | assumption | refine Below.alloc ?_ ?_ _ | refine Below.drew ?_ | refine below_drewN ?_ _ | refine Below.setCell ?_ ?_ _ | refine below_via (by with_reducible assumption) ?_ ?_) | omega | (simp only [szs]; omega) | (simp only [szs] at *; omega))))).mono ?_); rintro e w' ⟨rfl, rfl⟩) | (first | (go_at_call 17; first | (with_reducible refine (cs _).mono ?_; rintro e w' ⟨rfl, rfl⟩)) | (go_at_call 18; first | (with_reducible refine (cq _).mono ?_; rintro e w' ⟨rfl, rfl⟩))))
      have tx : Two (w_cr.alloc (.cells #[.int .u64 x, .int .u64 y] 25)) w_cr.heap.size (.int .u64 x) (.int .u64 y) := by (repeat' (first | (with_reducible first | assumption | exact Two.own (by with_reducible assumption) | refine Two.set ?_ _ _ | refine Own2.set ?_ _ _ | refine Two.drew ?_ | refine Two.drewN ?_ _ | refine Own2.drew ?_ | refine Own2.drewN ?_ _ | (refine Two.new ?_; simp only [szs]; done) | (refine Own2.new ?_; simp only [szs]; done) | refine Two.alloc ?_ _ | refine Own2.alloc ?_ _ | refine Two.far ?_ ?_ _ _ | refine Own2.far ?_ ?_ _ _ | refine Two.via (by with_reducible assumption) ?_ ?_ | refine Own2.via (by with_reducible assumption) ?_ ?_) | omega | (simp only [szs]; omega)))
      have hB : Below w.heap.size w (w_cr.alloc (.cells #[.int .u64 x, .int .u64 y] 25)) := by (repeat' (first | (with_reducible first | exact Below.refl _ _ | assumption | refine Below.alloc ?_ ?_ _ | refine Below.drew ?_ | refine below_drewN ?_ _ | refine Below.setCell ?_ ?_ _ | refine below_via (by with_reducible assumption) ?_ ?_) | omega | (simp only [szs]; omega) | (simp only [szs] at *; omega)))
      have hYc : Bys (w_cr.alloc (.cells #[.int .u64 x, .int .u64 y] 25)) b off 8 z := hY.below hB hY.lt
      generalize (w_cr.alloc (.cells #[.int .u64 x, .int .u64 y] 25)) = w4 at tx hB hYc ⊢
      generalize w_cr.heap.size = bx at tx ⊢
      clear cu cr cn cs cq b_cu b_cr z_cu z_cr hBx
      have ⟨x1, x2, x3, x4, x5⟩ := tx
      have lb := hYc.lt
      refine wp_region_noPanic ?_
      refine wp_region_held_drew (S := (fun w' => w'.cell? ⟨bx, 0, none⟩ = some (.int .u64 x) ∧ w'.cell? ⟨bx, 1, none⟩ = some (.int .u64 y) ∧ (convert 34 9 (.slice (some ⟨b, off, none⟩) 8 cap)).run Tryd.prog w' = .ok (.string st) w')) (by kernel_rfl) (by first | exact ⟨x1, x2, hv.out _ _ _ _ hYc.drew⟩) (fun hHeld => ?_)
      refine wpAnyH_take (i := 0) (oi := ?oi_30) (v := ?v_30) ?hi_30 ?hs_30 ?hf_30 ?hr_30 ?hQ_30 (Or.inl ⟨?hw_30, ?hy_30⟩) ?hS_30 ?hrest_30
      case hi_30 => (simp only [List.getElem?_toArray, List.getElem?_cons_succ, List.getElem?_cons_zero]; exact rfl)
      case hs_30 => kernel_rfl
      case hf_30 => kernel_rfl
      case hr_30 => kernel_rfl
      case hQ_30 => exact fun _ _ _ h => h
      case hw_30 => rfl
      case hS_30 => assumption
      case hy_30 => (intro w hSw; (try dsimp only at hSw); go_simp; try with_reducible rfl)
      try simp only [Act.put, List.setIfInBounds_toArray, List.set_cons_zero, List.set_cons_succ]
      refine wpAnyH_take (i := 1) (oi := ?oi_31) (v := ?v_31) ?hi_31 ?hs_31 ?hf_31 ?hr_31 ?hQ_31 (Or.inl ⟨?hw_31, ?hy_31⟩) ?hS_31 ?hrest_31
      case hi_31 => (simp only [List.getElem?_toArray, List.getElem?_cons_succ, List.getElem?_cons_zero]; exact rfl)
      case hs_31 => kernel_rfl
      case hf_31 => kernel_rfl
      case hr_31 => kernel_rfl
      case hQ_31 => exact fun _ _ _ h => h
      case hw_31 => rfl
      case hS_31 => assumption
      case hy_31 => (intro w hSw; (try dsimp only at hSw); go_simp; try with_reducible rfl)
      try simp only [Act.put, List.setIfInBounds_toArray, List.set_cons_zero, List.set_cons_succ]
      refine wpAnyH_take (i := 2) (oi := ?oi_32) (v := ?v_32) ?hi_32 ?hs_32 ?hf_32 ?hr_32 ?hQ_32 (Or.inl ⟨?hw_32, ?hy_32⟩) ?hS_32 ?hrest_32
      case hi_32 => (simp only [List.getElem?_toArray, List.getElem?_cons_succ, List.getElem?_cons_zero]; exact rfl)
      case hs_32 => kernel_rfl
      case hf_32 => kernel_rfl
      case hr_32 => kernel_rfl
      case hQ_32 => exact fun _ _ _ h => h
      case hw_32 => rfl
      case hS_32 => assumption
      case hy_32 => (intro w hSw; (try dsimp only at hSw); go_simp; try with_reducible rfl)
      try simp only [Act.put, List.setIfInBounds_toArray, List.set_cons_zero, List.set_cons_succ]
      refine wpAnyH_take (i := 3) (oi := ?oi_33) (v := ?v_33) ?hi_33 ?hs_33 ?hf_33 ?hr_33 ?hQ_33 (Or.inl ⟨?hw_33, ?hy_33⟩) ?hS_33 ?hrest_33
      case hi_33 => (simp only [List.getElem?_toArray, List.getElem?_cons_succ, List.getElem?_cons_zero]; exact rfl)
      case hs_33 => kernel_rfl
      case hf_33 => kernel_rfl
      case hr_33 => kernel_rfl
      case hQ_33 => exact fun _ _ _ h => h
      case hw_33 => rfl
      case hS_33 => assumption
      case hy_33 => (intro w hSw; (try dsimp only at hSw); go_simp; try with_reducible rfl)
      try simp only [Act.put, List.setIfInBounds_toArray, List.set_cons_zero, List.set_cons_succ]
      refine wpAnyH_take (i := 4) (oi := ?oi_34) (v := ?v_34) ?hi_34 ?hs_34 ?hf_34 ?hr_34 ?hQ_34 (Or.inl ⟨?hw_34, ?hy_34⟩) ?hS_34 ?hrest_34
      case hi_34 => (simp only [List.getElem?_toArray, List.getElem?_cons_succ, List.getElem?_cons_zero]; exact rfl)
      case hs_34 => kernel_rfl
      case hf_34 => kernel_rfl
      case hr_34 => kernel_rfl
      case hQ_34 => exact fun _ _ _ h => h
      case hw_34 => rfl
      case hS_34 => assumption
      case hy_34 => (intro w hSw; (try dsimp only at hSw); go_simp; try with_reducible rfl)
      try simp only [Act.put, List.setIfInBounds_toArray, List.set_cons_zero, List.set_cons_succ]
      refine wpAnyH_take (i := 5) (oi := ?oi_35) (v := ?v_35) ?hi_35 ?hs_35 ?hf_35 ?hr_35 ?hQ_35 (Or.inl ⟨?hw_35, ?hy_35⟩) ?hS_35 ?hrest_35
      case hi_35 => (simp only [List.getElem?_toArray, List.getElem?_cons_succ, List.getElem?_cons_zero]; exact rfl)
      case hs_35 => kernel_rfl
      case hf_35 => kernel_rfl
      case hr_35 => kernel_rfl
      case hQ_35 => exact fun _ _ _ h => h
      case hw_35 => rfl
      case hS_35 => assumption
      case hy_35 => (intro w hSw; (try dsimp only at hSw); go_simp; try with_reducible rfl)
      try simp only [Act.put, List.setIfInBounds_toArray, List.set_cons_zero, List.set_cons_succ]
      refine wpAnyH_take (i := 6) (oi := ?oi_36) (v := ?v_36) ?hi_36 ?hs_36 ?hf_36 ?hr_36 ?hQ_36 (Or.inl ⟨?hw_36, ?hy_36⟩) ?hS_36 ?hrest_36
      case hi_36 => (simp only [List.getElem?_toArray, List.getElem?_cons_succ, List.getElem?_cons_zero]; exact rfl)
      case hs_36 => kernel_rfl
      case hf_36 => kernel_rfl
      case hr_36 => kernel_rfl
      case hQ_36 => exact fun _ _ _ h => h
      case hw_36 => rfl
      case hS_36 => assumption
      case hy_36 => (intro w hSw; (try dsimp only at hSw); go_simp; try with_reducible rfl)
      try simp only [Act.put, List.setIfInBounds_toArray, List.set_cons_zero, List.set_cons_succ]
      refine wpAnyH_ready (rs := [7]) (by kernel_rfl) (by simp) ?_
      refine (AllReadyH.cons (o := ?o_91) ?ho_91 (fun K hK => ?st_91) AllReadyH.nil)
      case ho_91 => (simp only [List.getElem?_toArray, List.getElem?_cons_succ, List.getElem?_cons_zero]; exact rfl)
      go_simp
      (go_at_call 14; (with_reducible refine Calls.mono (ci _) ?_); rintro e w5 ⟨rfl, b5⟩)
      have z5 := b5.size
      simp only [World.size_drew] at z5 b5
      have k2 := (bcell b5).1 bx
      have c3 := k2 0 (by omega); have c4 := k2 1 (by omega)
      have y5 : Bys w5 b off 8 z := (hYc.drew).below b5 (by omega)
      clear k2
      refine hK.out _ _ (by first | exact ⟨by simp [*], by simp [*], hv.out _ _ _ _ y5⟩) (fun hHeld => ?_)
      clear hK K
      try simp only [Act.put, List.setIfInBounds_toArray, List.set_cons_zero, List.set_cons_succ]
      refine wpAnyH_take (i := 8) (oi := ?oi_37) (v := ?v_37) ?hi_37 ?hs_37 ?hf_37 ?hr_37 ?hQ_37 (Or.inl ⟨?hw_37, ?hy_37⟩) ?hS_37 ?hrest_37
      case hi_37 => (simp only [List.getElem?_toArray, List.getElem?_cons_succ, List.getElem?_cons_zero]; exact rfl)
      case hs_37 => kernel_rfl
      case hf_37 => kernel_rfl
      case hr_37 => kernel_rfl
      case hQ_37 => exact fun _ _ _ h => h
      case hw_37 => rfl
      case hS_37 => assumption
      case hy_37 => (intro w hSw; (try dsimp only at hSw); go_simp; try with_reducible rfl)
      try simp only [Act.put, List.setIfInBounds_toArray, List.set_cons_zero, List.set_cons_succ]
      refine wpAnyH_take (i := 9) (oi := ?oi_38) (v := ?v_38) ?hi_38 ?hs_38 ?hf_38 ?hr_38 ?hQ_38 (Or.inl ⟨?hw_38, ?hy_38⟩) ?hS_38 ?hrest_38
      case hi_38 => (simp only [List.getElem?_toArray, List.getElem?_cons_succ, List.getElem?_cons_zero]; exact rfl)
      case hs_38 => kernel_rfl
      case hf_38 => kernel_rfl
      case hr_38 => kernel_rfl
      case hQ_38 => exact fun _ _ _ h => h
      case hw_38 => rfl
      case hS_38 => assumption
      case hy_38 => (intro w hSw; (try dsimp only at hSw); go_simp; try with_reducible rfl)
      try simp only [Act.put, List.setIfInBounds_toArray, List.set_cons_zero, List.set_cons_succ]
      refine wpAnyH_take (i := 10) (oi := ?oi_39) (v := ?v_39) ?hi_39 ?hs_39 ?hf_39 ?hr_39 ?hQ_39 (Or.inl ⟨?hw_39, ?hy_39⟩) ?hS_39 ?hrest_39
      case hi_39 => (simp only [List.getElem?_toArray, List.getElem?_cons_succ, List.getElem?_cons_zero]; exact rfl)
      case hs_39 => kernel_rfl
      case hf_39 => kernel_rfl
      case hr_39 => kernel_rfl
      case hQ_39 => exact fun _ _ _ h => h
      case hw_39 => rfl
      case hS_39 => assumption
      case hy_39 => (intro w hSw; (try dsimp only at hSw); go_simp; try with_reducible rfl)
      try simp only [Act.put, List.setIfInBounds_toArray, List.set_cons_zero, List.set_cons_succ]
      refine wpAnyH_take (i := 11) (oi := ?oi_40) (v := ?v_40) ?hi_40 ?hs_40 ?hf_40 ?hr_40 ?hQ_40 (Or.inl ⟨?hw_40, ?hy_40⟩) ?hS_40 ?hrest_40
      case hi_40 => (simp only [List.getElem?_toArray, List.getElem?_cons_succ, List.getElem?_cons_zero]; exact rfl)
      case hs_40 => kernel_rfl
      case hf_40 => kernel_rfl
      case hr_40 => kernel_rfl
      case hQ_40 => exact fun _ _ _ h => h
      case hw_40 => rfl
      case hS_40 => assumption
      case hy_40 => (intro w hSw; (try dsimp only at hSw); go_simp; try with_reducible rfl)
      try simp only [Act.put, List.setIfInBounds_toArray, List.set_cons_zero, List.set_cons_succ]
      refine wpAnyH_take (i := 12) (oi := ?oi_41) (v := ?v_41) ?hi_41 ?hs_41 ?hf_41 ?hr_41 ?hQ_41 (Or.inl ⟨?hw_41, ?hy_41⟩) ?hS_41 ?hrest_41
      case hi_41 => (simp only [List.getElem?_toArray, List.getElem?_cons_succ, List.getElem?_cons_zero]; exact rfl)
      case hs_41 => kernel_rfl
      case hf_41 => kernel_rfl
      case hr_41 => kernel_rfl
      case hQ_41 => exact fun _ _ _ h => h
      case hw_41 => rfl
      case hS_41 => assumption
      case hy_41 => (intro w hSw; (try dsimp only at hSw); go_simp; try with_reducible rfl)
      try simp only [Act.put, List.setIfInBounds_toArray, List.set_cons_zero, List.set_cons_succ]
      refine wpAnyH_take (i := 13) (oi := ?oi_42) (v := ?v_42) ?hi_42 ?hs_42 ?hf_42 ?hr_42 ?hQ_42 (Or.inl ⟨?hw_42, ?hy_42⟩) ?hS_42 ?hrest_42
      case hi_42 => (simp only [List.getElem?_toArray, List.getElem?_cons_succ, List.getElem?_cons_zero]; exact rfl)
      case hs_42 => kernel_rfl
      case hf_42 => kernel_rfl
      case hr_42 => kernel_rfl
      case hQ_42 => exact fun _ _ _ h => h
      case hw_42 => rfl
      case hS_42 => assumption
      case hy_42 => (intro w hSw; (try dsimp only at hSw); go_simp; try with_reducible rfl)
      try simp only [Act.put, List.setIfInBounds_toArray, List.set_cons_zero, List.set_cons_succ]
      refine wpAnyH_take (i := 14) (oi := ?oi_43) (v := ?v_43) ?hi_43 ?hs_43 ?hf_43 ?hr_43 ?hQ_43 (Or.inl ⟨?hw_43, ?hy_43⟩) ?hS_43 ?hrest_43
      case hi_43 => (simp only [List.getElem?_toArray, List.getElem?_cons_succ, List.getElem?_cons_zero]; exact rfl)
      case hs_43 => kernel_rfl
      case hf_43 => kernel_rfl
      case hr_43 => kernel_rfl
      case hQ_43 => exact fun _ _ _ h => h
      case hw_43 => rfl
      case hS_43 => assumption
      case hy_43 => (intro w hSw; (try dsimp only at hSw); go_simp; try with_reducible rfl)
      try simp only [Act.put, List.setIfInBounds_toArray, List.set_cons_zero, List.set_cons_succ]
      refine wpAnyH_take (i := 15) (oi := ?oi_44) (v := ?v_44) ?hi_44 ?hs_44 ?hf_44 ?hr_44 ?hQ_44 (Or.inl ⟨?hw_44, ?hy_44⟩) ?hS_44 ?hrest_44
      case hi_44 => (simp only [List.getElem?_toArray, List.getElem?_cons_succ, List.getElem?_cons_zero]; exact rfl)
      case hs_44 => kernel_rfl
      case hf_44 => kernel_rfl
      case hr_44 => kernel_rfl
      case hQ_44 => exact fun _ _ _ h => h
      case hw_44 => rfl
      case hS_44 => assumption
      case hy_44 => (intro w hSw; (try dsimp only at hSw); go_simp; try with_reducible rfl)
      try simp only [Act.put, List.setIfInBounds_toArray, List.set_cons_zero, List.set_cons_succ]
      refine wpAnyH_take (i := 16) (oi := ?oi_45) (v := ?v_45) ?hi_45 ?hs_45 ?hf_45 ?hr_45 ?hQ_45 (Or.inl ⟨?hw_45, ?hy_45⟩) ?hS_45 ?hrest_45
      case hi_45 => (simp only [List.getElem?_toArray, List.getElem?_cons_succ, List.getElem?_cons_zero]; exact rfl)
      case hs_45 => kernel_rfl
      case hf_45 => kernel_rfl
      case hr_45 => kernel_rfl
      case hQ_45 => exact fun _ _ _ h => h
      case hw_45 => rfl
      case hS_45 => assumption
      case hy_45 => (intro w hSw; (try dsimp only at hSw); go_simp; try with_reducible rfl)
      try simp only [Act.put, List.setIfInBounds_toArray, List.set_cons_zero, List.set_cons_succ]
      refine wpAnyH_take (i := 17) (oi := ?oi_46) (v := ?v_46) ?hi_46 ?hs_46 ?hf_46 ?hr_46 ?hQ_46 (Or.inl ⟨?hw_46, ?hy_46⟩) ?hS_46 ?hrest_46
      case hi_46 => (simp only [List.getElem?_toArray, List.getElem?_cons_succ, List.getElem?_cons_zero]; exact rfl)
      case hs_46 => kernel_rfl
      case hf_46 => kernel_rfl
      case hr_46 => kernel_rfl
      case hQ_46 => exact fun _ _ _ h => h
      case hw_46 => rfl
      case hS_46 => assumption
      case hy_46 => (intro w hSw; (try dsimp only at hSw); go_simp; try with_reducible rfl)
      try simp only [Act.put, List.setIfInBounds_toArray, List.set_cons_zero, List.set_cons_succ]
      refine wpAnyH_take (i := 18) (oi := ?oi_47) (v := ?v_47) ?hi_47 ?hs_47 ?hf_47 ?hr_47 ?hQ_47 (Or.inl ⟨?hw_47, ?hy_47⟩) ?hS_47 ?hrest_47
      case hi_47 => (simp only [List.getElem?_toArray, List.getElem?_cons_succ, List.getElem?_cons_zero]; exact rfl)
      case hs_47 => kernel_rfl
      case hf_47 => kernel_rfl
      case hr_47 => kernel_rfl
      case hQ_47 => exact fun _ _ _ h => h
      case hw_47 => rfl
      case hS_47 => assumption
      case hy_47 => (intro w hSw; (try dsimp only at hSw); go_simp; try with_reducible rfl)
      try simp only [Act.put, List.setIfInBounds_toArray, List.set_cons_zero, List.set_cons_succ]
      refine wpAnyH_take (i := 19) (oi := ?oi_48) (v := ?v_48) ?hi_48 ?hs_48 ?hf_48 ?hr_48 ?hQ_48 (Or.inl ⟨?hw_48, ?hy_48⟩) ?hS_48 ?hrest_48
      case hi_48 => (simp only [List.getElem?_toArray, List.getElem?_cons_succ, List.getElem?_cons_zero]; exact rfl)
      case hs_48 => kernel_rfl
      case hf_48 => kernel_rfl
      case hr_48 => kernel_rfl
      case hQ_48 => exact fun _ _ _ h => h
      case hw_48 => rfl
      case hS_48 => assumption
      case hy_48 => (intro w hSw; (try dsimp only at hSw); go_simp; try with_reducible rfl)
      try simp only [Act.put, List.setIfInBounds_toArray, List.set_cons_zero, List.set_cons_succ]
      refine wpAnyH_take (i := 20) (oi := ?oi_49) (v := ?v_49) ?hi_49 ?hs_49 ?hf_49 ?hr_49 ?hQ_49 (Or.inl ⟨?hw_49, ?hy_49⟩) ?hS_49 ?hrest_49
      case hi_49 => (simp only [List.getElem?_toArray, List.getElem?_cons_succ, List.getElem?_cons_zero]; exact rfl)
      case hs_49 => kernel_rfl
      case hf_49 => kernel_rfl
      case hr_49 => kernel_rfl
      case hQ_49 => exact fun _ _ _ h => h
      case hw_49 => rfl
      case hS_49 => assumption
      case hy_49 => (intro w hSw; (try dsimp only at hSw); go_simp; try with_reducible rfl)
      try simp only [Act.put, List.setIfInBounds_toArray, List.set_cons_zero, List.set_cons_succ]
      refine wpAnyH_take (i := 21) (oi := ?oi_50) (v := ?v_50) ?hi_50 ?hs_50 ?hf_50 ?hr_50 ?hQ_50 (Or.inl ⟨?hw_50, ?hy_50⟩) ?hS_50 ?hrest_50
      case hi_50 => (simp only [List.getElem?_toArray, List.getElem?_cons_succ, List.getElem?_cons_zero]; exact rfl)
      case hs_50 => kernel_rfl
      case hf_50 => kernel_rfl
      case hr_50 => kernel_rfl
      case hQ_50 => exact fun _ _ _ h => h
      case hw_50 => rfl
      case hS_50 => assumption
      case hy_50 => (intro w hSw; (try dsimp only at hSw); go_simp; try with_reducible rfl)
      try simp only [Act.put, List.setIfInBounds_toArray, List.set_cons_zero, List.set_cons_succ]
      refine wpAnyH_take (i := 22) (oi := ?oi_51) (v := ?v_51) ?hi_51 ?hs_51 ?hf_51 ?hr_51 ?hQ_51 (Or.inl ⟨?hw_51, ?hy_51⟩) ?hS_51 ?hrest_51
      case hi_51 => (simp only [List.getElem?_toArray, List.getElem?_cons_succ, List.getElem?_cons_zero]; exact rfl)
      case hs_51 => kernel_rfl
      case hf_51 => kernel_rfl
      case hr_51 => kernel_rfl
      case hQ_51 => exact fun _ _ _ h => h
      case hw_51 => rfl
      case hS_51 => assumption
      case hy_51 => (intro w hSw; (try dsimp only at hSw); go_simp; try with_reducible rfl)
      try simp only [Act.put, List.setIfInBounds_toArray, List.set_cons_zero, List.set_cons_succ]
      refine wpAnyH_take (i := 23) (oi := ?oi_52) (v := ?v_52) ?hi_52 ?hs_52 ?hf_52 ?hr_52 ?hQ_52 (Or.inl ⟨?hw_52, ?hy_52⟩) ?hS_52 ?hrest_52
      case hi_52 => (simp only [List.getElem?_toArray, List.getElem?_cons_succ, List.getElem?_cons_zero]; exact rfl)
      case hs_52 => kernel_rfl
      case hf_52 => kernel_rfl
      case hr_52 => kernel_rfl
      case hQ_52 => exact fun _ _ _ h => h
      case hw_52 => rfl
      case hS_52 => assumption
      case hy_52 => (intro w hSw; (try dsimp only at hSw); go_simp; try with_reducible rfl)
      try simp only [Act.put, List.setIfInBounds_toArray, List.set_cons_zero, List.set_cons_succ]
      refine wpAnyH_take (i := 24) (oi := ?oi_53) (v := ?v_53) ?hi_53 ?hs_53 ?hf_53 ?hr_53 ?hQ_53 (Or.inl ⟨?hw_53, ?hy_53⟩) ?hS_53 ?hrest_53
      case hi_53 => (simp only [List.getElem?_toArray, List.getElem?_cons_succ, List.getElem?_cons_zero]; exact rfl)
      case hs_53 => kernel_rfl
      case hf_53 => kernel_rfl
      case hr_53 => kernel_rfl
      case hQ_53 => exact fun _ _ _ h => h
      case hw_53 => rfl
      case hS_53 => assumption
      case hy_53 => (intro w hSw; (try dsimp only at hSw); go_simp; try with_reducible rfl)
      try simp only [Act.put, List.setIfInBounds_toArray, List.set_cons_zero, List.set_cons_succ]
      refine wpAnyH_take (i := 27) (oi := ?oi_54) (v := ?v_54) ?hi_54 ?hs_54 ?hf_54 ?hr_54 ?hQ_54 (Or.inl ⟨?hw_54, ?hy_54⟩) ?hS_54 ?hrest_54
      case hi_54 => (simp only [List.getElem?_toArray, List.getElem?_cons_succ, List.getElem?_cons_zero]; exact rfl)
      case hs_54 => kernel_rfl
      case hf_54 => kernel_rfl
      case hr_54 => kernel_rfl
      case hQ_54 => exact fun _ _ _ h => h
      case hw_54 => rfl
      case hS_54 => assumption
      case hy_54 => (intro w hSw; (try dsimp only at hSw); go_simp; try with_reducible rfl)
      try simp only [Act.put, List.setIfInBounds_toArray, List.set_cons_zero, List.set_cons_succ]
      refine wpAnyH_take (i := 28) (oi := ?oi_55) (v := ?v_55) ?hi_55 ?hs_55 ?hf_55 ?hr_55 ?hQ_55 (Or.inl ⟨?hw_55, ?hy_55⟩) ?hS_55 ?hrest_55
      case hi_55 => (simp only [List.getElem?_toArray, List.getElem?_cons_succ, List.getElem?_cons_zero]; exact rfl)
      case hs_55 => kernel_rfl
      case hf_55 => kernel_rfl
      case hr_55 => kernel_rfl
      case hQ_55 => exact fun _ _ _ h => h
      case hw_55 => rfl
      case hS_55 => assumption
      case hy_55 => (intro w hSw; (try dsimp only at hSw); go_simp; try with_reducible rfl)
      try simp only [Act.put, List.setIfInBounds_toArray, List.set_cons_zero, List.set_cons_succ]
      refine wpAnyH_ready (rs := [25]) (by kernel_rfl) (by simp) ?_
      refine (AllReadyH.cons (o := ?o_92) ?ho_92 (fun K hK => ?st_92) AllReadyH.nil)
      case ho_92 => (simp only [List.getElem?_toArray, List.getElem?_cons_succ, List.getElem?_cons_zero]; exact rfl)
      go_simp
      (go_at_call 15; (with_reducible refine Calls.mono (rb _) ?_); rintro e w6 ⟨g', rfl, hg', hy', b6⟩)
      have z6 := b6.size
      have k3 := (bcell b6).1 bx
      have c5 := k3 0 (by omega); have c6 := k3 1 (by omega)
      have y6 : Bys w6 b off 8 z := y5.below b6 (by omega)
      have e0 := hv2.out _ _ hy'
      clear k3
      refine hK.out _ _ (by first | exact ⟨by simp [*], by simp [*], hv.out _ _ _ _ y6⟩) (fun hHeld => ?_)
      clear hK K
      try simp only [Act.put, List.setIfInBounds_toArray, List.set_cons_zero, List.set_cons_succ]
      refine wpAnyH_ready (rs := [26]) (by kernel_rfl) (by simp) ?_
      refine (AllReadyH.cons (o := ?o_93) ?ho_93 (fun K hK => ?st_93) AllReadyH.nil)
      case ho_93 => (simp only [List.getElem?_toArray, List.getElem?_cons_succ, List.getElem?_cons_zero]; exact rfl)
      go_simp
      refine hK.out _ _ (by first | exact ⟨by simp [*], by simp [*], hv.out _ _ _ _ y6⟩) (fun hHeld => ?_)
      clear hK K
      try simp only [Act.put, List.setIfInBounds_toArray, List.set_cons_zero, List.set_cons_succ]
      refine wpAnyH_take (i := 29) (oi := ?oi_56) (v := ?v_56) ?hi_56 ?hs_56 ?hf_56 ?hr_56 ?hQ_56 (Or.inl ⟨?hw_56, ?hy_56⟩) ?hS_56 ?hrest_56
      case hi_56 => (simp only [List.getElem?_toArray, List.getElem?_cons_succ, List.getElem?_cons_zero]; exact rfl)
      case hs_56 => kernel_rfl
      case hf_56 => kernel_rfl
      case hr_56 => kernel_rfl
      case hQ_56 => exact fun _ _ _ h => h
      case hw_56 => rfl
      case hS_56 => assumption
      case hy_56 => (intro w hSw; (try dsimp only at hSw); go_simp; try with_reducible rfl)
      try simp only [Act.put, List.setIfInBounds_toArray, List.set_cons_zero, List.set_cons_succ]
      refine wpAnyH_take (i := 30) (oi := ?oi_57) (v := ?v_57) ?hi_57 ?hs_57 ?hf_57 ?hr_57 ?hQ_57 (Or.inl ⟨?hw_57, ?hy_57⟩) ?hS_57 ?hrest_57
      case hi_57 => (simp only [List.getElem?_toArray, List.getElem?_cons_succ, List.getElem?_cons_zero]; exact rfl)
      case hs_57 => kernel_rfl
      case hf_57 => kernel_rfl
      case hr_57 => kernel_rfl
      case hQ_57 => exact fun _ _ _ h => h
      case hw_57 => rfl
      case hS_57 => assumption
      case hy_57 => (intro w hSw; (try dsimp only at hSw); go_simp; try with_reducible rfl)
      try simp only [Act.put, List.setIfInBounds_toArray, List.set_cons_zero, List.set_cons_succ]
      refine wpAnyH_take (i := 31) (oi := ?oi_58) (v := ?v_58) ?hi_58 ?hs_58 ?hf_58 ?hr_58 ?hQ_58 (Or.inl ⟨?hw_58, ?hy_58⟩) ?hS_58 ?hrest_58
      case hi_58 => (simp only [List.getElem?_toArray, List.getElem?_cons_succ, List.getElem?_cons_zero]; exact rfl)
      case hs_58 => kernel_rfl
      case hf_58 => kernel_rfl
      case hr_58 => kernel_rfl
      case hQ_58 => exact fun _ _ _ h => h
      case hw_58 => rfl
      case hS_58 => assumption
      case hy_58 => (intro w hSw; (try dsimp only at hSw); go_simp; try with_reducible rfl)
      try simp only [Act.put, List.setIfInBounds_toArray, List.set_cons_zero, List.set_cons_succ]
      refine wpAnyH_done (by kernel_rfl) ?_ _
      refine NoPanic.normal ?_
      go_wp2
      go_ret
      have zB := hB.size
      exact ⟨rfl, by (repeat' (first | (with_reducible first | exact Below.refl _ _ | assumption | refine Below.alloc ?_ ?_ _ | refine Below.drew ?_ | refine below_drewN ?_ _ | refine Below.setCell ?_ ?_ _ | refine below_via (by with_reducible assumption) ?_ ?_) | omega | (simp only [szs]; omega) | (simp only [szs] at *; omega)))⟩
  · have o2 : (x : Int) % 2 = 0 := by have := of_decide_eq_false hx; omega
    have o3 : Int.tmod (x : Int) 2 = 0 := by rw [Int.tmod_eq_emod_of_nonneg (by omega)]; exact o2
    clear hx
    go_enter Tryd.func5, Tryd.ntmps5
    go_upto_region 14 with (first | (first | (go_at_call 6; first | (with_reducible refine (cu _).mono ?_; rintro e w_cu ⟨rfl, b_cu⟩; have z_cu := b_cu.size; (try simp only [szs] at z_cu)))) | (go_at_call 9; (with_reducible refine (cr _ (by (repeat' (first | (with_reducible first | exact Below.refl _ _ | assumption | refine Below.alloc ?_ ?_ _ | refine Below.drew ?_ | refine below_drewN ?_ _ | refine Below.setCell ?_ ?_ _ | refine below_via (by with_reducible assumption) ?_ ?_) | omega | (simp only [szs]; omega) | (simp only [szs] at *; omega))))).mono ?_); rintro e w_cr ⟨rfl, b_cr⟩; have z_cr := b_cr.size; have hBx : Below w.heap.size w w_cr := by (repeat' (first | (with_reducible first | exact Below.refl _ _ | assumption | refine Below.alloc ?_ ?_ _ | refine Below.drew ?_ | refine below_drewN ?_ _ | refine Below.setCell ?_ ?_ _ | refine below_via (by with_reducible assumption) ?_ ?_) | omega | (simp only [szs]; omega) | (simp only [szs] at *; omega)))) | (go_at_call 16; (with_reducible refine (cn _ (by (repeat' (first | (with_reducible first | exact Below.refl _ _ | assumption | refine Below.alloc ?_ ?_ _ | refine Below.drew ?_ | refine below_drewN ?_ _ | refine Below.setCell ?_ ?_ _ | refine below_via (by with_reducible assumption) ?_ ?_) | omega | (simp only [szs]; omega) | (simp only [szs] at *; omega))))).mono ?_); rintro e w' ⟨rfl, rfl⟩) | (first | (go_at_call 17; first | (with_reducible refine (cs _).mono ?_; rintro e w' ⟨rfl, rfl⟩)) | (go_at_call 18; first | (with_reducible refine (cq _).mono ?_; rintro e w' ⟨rfl, rfl⟩))))
    have tx : Two (w_cr.alloc (.cells #[.int .u64 x, .int .u64 y] 25)) w_cr.heap.size (.int .u64 x) (.int .u64 y) := by (repeat' (first | (with_reducible first | assumption | exact Two.own (by with_reducible assumption) | refine Two.set ?_ _ _ | refine Own2.set ?_ _ _ | refine Two.drew ?_ | refine Two.drewN ?_ _ | refine Own2.drew ?_ | refine Own2.drewN ?_ _ | (refine Two.new ?_; simp only [szs]; done) | (refine Own2.new ?_; simp only [szs]; done) | refine Two.alloc ?_ _ | refine Own2.alloc ?_ _ | refine Two.far ?_ ?_ _ _ | refine Own2.far ?_ ?_ _ _ | refine Two.via (by with_reducible assumption) ?_ ?_ | refine Own2.via (by with_reducible assumption) ?_ ?_) | omega | (simp only [szs]; omega)))
    have hB : Below w.heap.size w (w_cr.alloc (.cells #[.int .u64 x, .int .u64 y] 25)) := by (repeat' (first | (with_reducible first | exact Below.refl _ _ | assumption | refine Below.alloc ?_ ?_ _ | refine Below.drew ?_ | refine below_drewN ?_ _ | refine Below.setCell ?_ ?_ _ | refine below_via (by with_reducible assumption) ?_ ?_) | omega | (simp only [szs]; omega) | (simp only [szs] at *; omega)))
    have hYc : Bys (w_cr.alloc (.cells #[.int .u64 x, .int .u64 y] 25)) b off 8 z := hY.below hB hY.lt
    generalize (w_cr.alloc (.cells #[.int .u64 x, .int .u64 y] 25)) = w4 at tx hB hYc ⊢
    generalize w_cr.heap.size = bx at tx ⊢
    clear cu cr cn cs cq b_cu b_cr z_cu z_cr hBx
    have ⟨x1, x2, x3, x4, x5⟩ := tx
    have lb := hYc.lt
    refine wp_region_noPanic ?_
    refine wp_region_held_drew (S := (fun w' => w'.cell? ⟨bx, 0, none⟩ = some (.int .u64 x) ∧ w'.cell? ⟨bx, 1, none⟩ = some (.int .u64 y) ∧ (convert 34 9 (.slice (some ⟨b, off, none⟩) 8 cap)).run Tryd.prog w' = .ok (.string st) w')) (by kernel_rfl) (by first | exact ⟨x1, x2, hv.out _ _ _ _ hYc.drew⟩) (fun hHeld => ?_)
    refine wpAnyH_take (i := 0) (oi := ?oi_59) (v := ?v_59) ?hi_59 ?hs_59 ?hf_59 ?hr_59 ?hQ_59 (Or.inl ⟨?hw_59, ?hy_59⟩) ?hS_59 ?hrest_59
    case hi_59 => (simp only [List.getElem?_toArray, List.getElem?_cons_succ, List.getElem?_cons_zero]; exact rfl)
    case hs_59 => kernel_rfl
    case hf_59 => kernel_rfl
    case hr_59 => kernel_rfl
    case hQ_59 => exact fun _ _ _ h => h
    case hw_59 => rfl
    case hS_59 => assumption
    case hy_59 => (intro w hSw; (try dsimp only at hSw); go_simp; try with_reducible rfl)
    try simp only [Act.put, List.setIfInBounds_toArray, List.set_cons_zero, List.set_cons_succ]
    refine wpAnyH_take (i := 1) (oi := ?oi_60) (v := ?v_60) ?hi_60 ?hs_60 ?hf_60 ?hr_60 ?hQ_60 (Or.inl ⟨?hw_60, ?hy_60⟩) ?hS_60 ?hrest_60
    case hi_60 => (simp only [List.getElem?_toArray, List.getElem?_cons_succ, List.getElem?_cons_zero]; exact rfl)
    case hs_60 => kernel_rfl
    case hf_60 => kernel_rfl
    case hr_60 => kernel_rfl
    case hQ_60 => exact fun _ _ _ h => h
    case hw_60 => rfl
    case hS_60 => assumption
    case hy_60 => (intro w hSw; (try dsimp only at hSw); go_simp; try with_reducible rfl)
    try simp only [Act.put, List.setIfInBounds_toArray, List.set_cons_zero, List.set_cons_succ]
    refine wpAnyH_take (i := 2) (oi := ?oi_61) (v := ?v_61) ?hi_61 ?hs_61 ?hf_61 ?hr_61 ?hQ_61 (Or.inl ⟨?hw_61, ?hy_61⟩) ?hS_61 ?hrest_61
    case hi_61 => (simp only [List.getElem?_toArray, List.getElem?_cons_succ, List.getElem?_cons_zero]; exact rfl)
    case hs_61 => kernel_rfl
    case hf_61 => kernel_rfl
    case hr_61 => kernel_rfl
    case hQ_61 => exact fun _ _ _ h => h
    case hw_61 => rfl
    case hS_61 => assumption
    case hy_61 => (intro w hSw; (try dsimp only at hSw); go_simp; try with_reducible rfl)
    try simp only [Act.put, List.setIfInBounds_toArray, List.set_cons_zero, List.set_cons_succ]
    refine wpAnyH_take (i := 3) (oi := ?oi_62) (v := ?v_62) ?hi_62 ?hs_62 ?hf_62 ?hr_62 ?hQ_62 (Or.inl ⟨?hw_62, ?hy_62⟩) ?hS_62 ?hrest_62
    case hi_62 => (simp only [List.getElem?_toArray, List.getElem?_cons_succ, List.getElem?_cons_zero]; exact rfl)
    case hs_62 => kernel_rfl
    case hf_62 => kernel_rfl
    case hr_62 => kernel_rfl
    case hQ_62 => exact fun _ _ _ h => h
    case hw_62 => rfl
    case hS_62 => assumption
    case hy_62 => (intro w hSw; (try dsimp only at hSw); go_simp; try with_reducible rfl)
    try simp only [Act.put, List.setIfInBounds_toArray, List.set_cons_zero, List.set_cons_succ]
    refine wpAnyH_take (i := 4) (oi := ?oi_63) (v := ?v_63) ?hi_63 ?hs_63 ?hf_63 ?hr_63 ?hQ_63 (Or.inl ⟨?hw_63, ?hy_63⟩) ?hS_63 ?hrest_63
    case hi_63 => (simp only [List.getElem?_toArray, List.getElem?_cons_succ, List.getElem?_cons_zero]; exact rfl)
    case hs_63 => kernel_rfl
    case hf_63 => kernel_rfl
    case hr_63 => kernel_rfl
    case hQ_63 => exact fun _ _ _ h => h
    case hw_63 => rfl
    case hS_63 => assumption
    case hy_63 => (intro w hSw; (try dsimp only at hSw); go_simp; try with_reducible rfl)
    try simp only [Act.put, List.setIfInBounds_toArray, List.set_cons_zero, List.set_cons_succ]
    refine wpAnyH_take (i := 5) (oi := ?oi_64) (v := ?v_64) ?hi_64 ?hs_64 ?hf_64 ?hr_64 ?hQ_64 (Or.inl ⟨?hw_64, ?hy_64⟩) ?hS_64 ?hrest_64
    case hi_64 => (simp only [List.getElem?_toArray, List.getElem?_cons_succ, List.getElem?_cons_zero]; exact rfl)
    case hs_64 => kernel_rfl
    case hf_64 => kernel_rfl
    case hr_64 => kernel_rfl
    case hQ_64 => exact fun _ _ _ h => h
    case hw_64 => rfl
    case hS_64 => assumption
    case hy_64 => (intro w hSw; (try dsimp only at hSw); go_simp; try with_reducible rfl)
    try simp only [Act.put, List.setIfInBounds_toArray, List.set_cons_zero, List.set_cons_succ]
    refine wpAnyH_take (i := 6) (oi := ?oi_65) (v := ?v_65) ?hi_65 ?hs_65 ?hf_65 ?hr_65 ?hQ_65 (Or.inl ⟨?hw_65, ?hy_65⟩) ?hS_65 ?hrest_65
    case hi_65 => (simp only [List.getElem?_toArray, List.getElem?_cons_succ, List.getElem?_cons_zero]; exact rfl)
    case hs_65 => kernel_rfl
    case hf_65 => kernel_rfl
    case hr_65 => kernel_rfl
    case hQ_65 => exact fun _ _ _ h => h
    case hw_65 => rfl
    case hS_65 => assumption
    case hy_65 => (intro w hSw; (try dsimp only at hSw); go_simp; try with_reducible rfl)
    try simp only [Act.put, List.setIfInBounds_toArray, List.set_cons_zero, List.set_cons_succ]
    refine wpAnyH_ready (rs := [7]) (by kernel_rfl) (by simp) ?_
    refine (AllReadyH.cons (o := ?o_94) ?ho_94 (fun K hK => ?st_94) AllReadyH.nil)
    case ho_94 => (simp only [List.getElem?_toArray, List.getElem?_cons_succ, List.getElem?_cons_zero]; exact rfl)
    go_simp
    (go_at_call 14; (with_reducible refine Calls.mono (ci _) ?_); rintro e w5 ⟨rfl, b5⟩)
    have z5 := b5.size
    simp only [World.size_drew] at z5 b5
    have k2 := (bcell b5).1 bx
    have c3 := k2 0 (by omega); have c4 := k2 1 (by omega)
    have y5 : Bys w5 b off 8 z := (hYc.drew).below b5 (by omega)
    clear k2
    refine hK.out _ _ (by first | exact ⟨by simp [*], by simp [*], hv.out _ _ _ _ y5⟩) (fun hHeld => ?_)
    clear hK K
    try simp only [Act.put, List.setIfInBounds_toArray, List.set_cons_zero, List.set_cons_succ]
    refine wpAnyH_take (i := 8) (oi := ?oi_66) (v := ?v_66) ?hi_66 ?hs_66 ?hf_66 ?hr_66 ?hQ_66 (Or.inl ⟨?hw_66, ?hy_66⟩) ?hS_66 ?hrest_66
    case hi_66 => (simp only [List.getElem?_toArray, List.getElem?_cons_succ, List.getElem?_cons_zero]; exact rfl)
    case hs_66 => kernel_rfl
    case hf_66 => kernel_rfl
    case hr_66 => kernel_rfl
    case hQ_66 => exact fun _ _ _ h => h
    case hw_66 => rfl
    case hS_66 => assumption
    case hy_66 => (intro w hSw; (try dsimp only at hSw); go_simp; try with_reducible rfl)
    try simp only [Act.put, List.setIfInBounds_toArray, List.set_cons_zero, List.set_cons_succ]
    refine wpAnyH_take (i := 9) (oi := ?oi_67) (v := ?v_67) ?hi_67 ?hs_67 ?hf_67 ?hr_67 ?hQ_67 (Or.inl ⟨?hw_67, ?hy_67⟩) ?hS_67 ?hrest_67
    case hi_67 => (simp only [List.getElem?_toArray, List.getElem?_cons_succ, List.getElem?_cons_zero]; exact rfl)
    case hs_67 => kernel_rfl
    case hf_67 => kernel_rfl
    case hr_67 => kernel_rfl
    case hQ_67 => exact fun _ _ _ h => h
    case hw_67 => rfl
    case hS_67 => assumption
    case hy_67 => (intro w hSw; (try dsimp only at hSw); go_simp; try with_reducible rfl)
    try simp only [Act.put, List.setIfInBounds_toArray, List.set_cons_zero, List.set_cons_succ]
    refine wpAnyH_take (i := 10) (oi := ?oi_68) (v := ?v_68) ?hi_68 ?hs_68 ?hf_68 ?hr_68 ?hQ_68 (Or.inl ⟨?hw_68, ?hy_68⟩) ?hS_68 ?hrest_68
    case hi_68 => (simp only [List.getElem?_toArray, List.getElem?_cons_succ, List.getElem?_cons_zero]; exact rfl)
    case hs_68 => kernel_rfl
    case hf_68 => kernel_rfl
    case hr_68 => kernel_rfl
    case hQ_68 => exact fun _ _ _ h => h
    case hw_68 => rfl
    case hS_68 => assumption
    case hy_68 => (intro w hSw; (try dsimp only at hSw); go_simp; try with_reducible rfl)
    try simp only [Act.put, List.setIfInBounds_toArray, List.set_cons_zero, List.set_cons_succ]
    refine wpAnyH_take (i := 11) (oi := ?oi_69) (v := ?v_69) ?hi_69 ?hs_69 ?hf_69 ?hr_69 ?hQ_69 (Or.inl ⟨?hw_69, ?hy_69⟩) ?hS_69 ?hrest_69
    case hi_69 => (simp only [List.getElem?_toArray, List.getElem?_cons_succ, List.getElem?_cons_zero]; exact rfl)
    case hs_69 => kernel_rfl
    case hf_69 => kernel_rfl
    case hr_69 => kernel_rfl
    case hQ_69 => exact fun _ _ _ h => h
    case hw_69 => rfl
    case hS_69 => assumption
    case hy_69 => (intro w hSw; (try dsimp only at hSw); go_simp; try with_reducible rfl)
    try simp only [Act.put, List.setIfInBounds_toArray, List.set_cons_zero, List.set_cons_succ]
    refine wpAnyH_take (i := 12) (oi := ?oi_70) (v := ?v_70) ?hi_70 ?hs_70 ?hf_70 ?hr_70 ?hQ_70 (Or.inl ⟨?hw_70, ?hy_70⟩) ?hS_70 ?hrest_70
    case hi_70 => (simp only [List.getElem?_toArray, List.getElem?_cons_succ, List.getElem?_cons_zero]; exact rfl)
    case hs_70 => kernel_rfl
    case hf_70 => kernel_rfl
    case hr_70 => kernel_rfl
    case hQ_70 => exact fun _ _ _ h => h
    case hw_70 => rfl
    case hS_70 => assumption
    case hy_70 => (intro w hSw; (try dsimp only at hSw); go_simp; try with_reducible rfl)
    try simp only [Act.put, List.setIfInBounds_toArray, List.set_cons_zero, List.set_cons_succ]
    refine wpAnyH_take (i := 13) (oi := ?oi_71) (v := ?v_71) ?hi_71 ?hs_71 ?hf_71 ?hr_71 ?hQ_71 (Or.inl ⟨?hw_71, ?hy_71⟩) ?hS_71 ?hrest_71
    case hi_71 => (simp only [List.getElem?_toArray, List.getElem?_cons_succ, List.getElem?_cons_zero]; exact rfl)
    case hs_71 => kernel_rfl
    case hf_71 => kernel_rfl
    case hr_71 => kernel_rfl
    case hQ_71 => exact fun _ _ _ h => h
    case hw_71 => rfl
    case hS_71 => assumption
    case hy_71 => (intro w hSw; (try dsimp only at hSw); go_simp; try with_reducible rfl)
    try simp only [Act.put, List.setIfInBounds_toArray, List.set_cons_zero, List.set_cons_succ]
    refine wpAnyH_take (i := 14) (oi := ?oi_72) (v := ?v_72) ?hi_72 ?hs_72 ?hf_72 ?hr_72 ?hQ_72 (Or.inl ⟨?hw_72, ?hy_72⟩) ?hS_72 ?hrest_72
    case hi_72 => (simp only [List.getElem?_toArray, List.getElem?_cons_succ, List.getElem?_cons_zero]; exact rfl)
    case hs_72 => kernel_rfl
    case hf_72 => kernel_rfl
    case hr_72 => kernel_rfl
    case hQ_72 => exact fun _ _ _ h => h
    case hw_72 => rfl
    case hS_72 => assumption
    case hy_72 => (intro w hSw; (try dsimp only at hSw); go_simp; try with_reducible rfl)
    try simp only [Act.put, List.setIfInBounds_toArray, List.set_cons_zero, List.set_cons_succ]
    refine wpAnyH_take (i := 15) (oi := ?oi_73) (v := ?v_73) ?hi_73 ?hs_73 ?hf_73 ?hr_73 ?hQ_73 (Or.inl ⟨?hw_73, ?hy_73⟩) ?hS_73 ?hrest_73
    case hi_73 => (simp only [List.getElem?_toArray, List.getElem?_cons_succ, List.getElem?_cons_zero]; exact rfl)
    case hs_73 => kernel_rfl
    case hf_73 => kernel_rfl
    case hr_73 => kernel_rfl
    case hQ_73 => exact fun _ _ _ h => h
    case hw_73 => rfl
    case hS_73 => assumption
    case hy_73 => (intro w hSw; (try dsimp only at hSw); go_simp; try with_reducible rfl)
    try simp only [Act.put, List.setIfInBounds_toArray, List.set_cons_zero, List.set_cons_succ]
    refine wpAnyH_take (i := 16) (oi := ?oi_74) (v := ?v_74) ?hi_74 ?hs_74 ?hf_74 ?hr_74 ?hQ_74 (Or.inl ⟨?hw_74, ?hy_74⟩) ?hS_74 ?hrest_74
    case hi_74 => (simp only [List.getElem?_toArray, List.getElem?_cons_succ, List.getElem?_cons_zero]; exact rfl)
    case hs_74 => kernel_rfl
    case hf_74 => kernel_rfl
    case hr_74 => kernel_rfl
    case hQ_74 => exact fun _ _ _ h => h
    case hw_74 => rfl
    case hS_74 => assumption
    case hy_74 => (intro w hSw; (try dsimp only at hSw); go_simp; try with_reducible rfl)
    try simp only [Act.put, List.setIfInBounds_toArray, List.set_cons_zero, List.set_cons_succ]
    refine wpAnyH_take (i := 17) (oi := ?oi_75) (v := ?v_75) ?hi_75 ?hs_75 ?hf_75 ?hr_75 ?hQ_75 (Or.inl ⟨?hw_75, ?hy_75⟩) ?hS_75 ?hrest_75
    case hi_75 => (simp only [List.getElem?_toArray, List.getElem?_cons_succ, List.getElem?_cons_zero]; exact rfl)
    case hs_75 => kernel_rfl
    case hf_75 => kernel_rfl
    case hr_75 => kernel_rfl
    case hQ_75 => exact fun _ _ _ h => h
    case hw_75 => rfl
    case hS_75 => assumption
    case hy_75 => (intro w hSw; (try dsimp only at hSw); go_simp; try with_reducible rfl)
    try simp only [Act.put, List.setIfInBounds_toArray, List.set_cons_zero, List.set_cons_succ]
    refine wpAnyH_take (i := 18) (oi := ?oi_76) (v := ?v_76) ?hi_76 ?hs_76 ?hf_76 ?hr_76 ?hQ_76 (Or.inl ⟨?hw_76, ?hy_76⟩) ?hS_76 ?hrest_76
    case hi_76 => (simp only [List.getElem?_toArray, List.getElem?_cons_succ, List.getElem?_cons_zero]; exact rfl)
    case hs_76 => kernel_rfl
    case hf_76 => kernel_rfl
    case hr_76 => kernel_rfl
    case hQ_76 => exact fun _ _ _ h => h
    case hw_76 => rfl
    case hS_76 => assumption
    case hy_76 => (intro w hSw; (try dsimp only at hSw); go_simp; try with_reducible rfl)
    try simp only [Act.put, List.setIfInBounds_toArray, List.set_cons_zero, List.set_cons_succ]
    refine wpAnyH_take (i := 19) (oi := ?oi_77) (v := ?v_77) ?hi_77 ?hs_77 ?hf_77 ?hr_77 ?hQ_77 (Or.inl ⟨?hw_77, ?hy_77⟩) ?hS_77 ?hrest_77
    case hi_77 => (simp only [List.getElem?_toArray, List.getElem?_cons_succ, List.getElem?_cons_zero]; exact rfl)
    case hs_77 => kernel_rfl
    case hf_77 => kernel_rfl
    case hr_77 => kernel_rfl
    case hQ_77 => exact fun _ _ _ h => h
    case hw_77 => rfl
    case hS_77 => assumption
    case hy_77 => (intro w hSw; (try dsimp only at hSw); go_simp; try with_reducible rfl)
    try simp only [Act.put, List.setIfInBounds_toArray, List.set_cons_zero, List.set_cons_succ]
    refine wpAnyH_take (i := 20) (oi := ?oi_78) (v := ?v_78) ?hi_78 ?hs_78 ?hf_78 ?hr_78 ?hQ_78 (Or.inl ⟨?hw_78, ?hy_78⟩) ?hS_78 ?hrest_78
    case hi_78 => (simp only [List.getElem?_toArray, List.getElem?_cons_succ, List.getElem?_cons_zero]; exact rfl)
    case hs_78 => kernel_rfl
    case hf_78 => kernel_rfl
    case hr_78 => kernel_rfl
    case hQ_78 => exact fun _ _ _ h => h
    case hw_78 => rfl
    case hS_78 => assumption
    case hy_78 => (intro w hSw; (try dsimp only at hSw); go_simp; try with_reducible rfl)
    try simp only [Act.put, List.setIfInBounds_toArray, List.set_cons_zero, List.set_cons_succ]
    refine wpAnyH_take (i := 21) (oi := ?oi_79) (v := ?v_79) ?hi_79 ?hs_79 ?hf_79 ?hr_79 ?hQ_79 (Or.inl ⟨?hw_79, ?hy_79⟩) ?hS_79 ?hrest_79
    case hi_79 => (simp only [List.getElem?_toArray, List.getElem?_cons_succ, List.getElem?_cons_zero]; exact rfl)
    case hs_79 => kernel_rfl
    case hf_79 => kernel_rfl
    case hr_79 => kernel_rfl
    case hQ_79 => exact fun _ _ _ h => h
    case hw_79 => rfl
    case hS_79 => assumption
    case hy_79 => (intro w hSw; (try dsimp only at hSw); go_simp; try with_reducible rfl)
    try simp only [Act.put, List.setIfInBounds_toArray, List.set_cons_zero, List.set_cons_succ]
    refine wpAnyH_take (i := 22) (oi := ?oi_80) (v := ?v_80) ?hi_80 ?hs_80 ?hf_80 ?hr_80 ?hQ_80 (Or.inl ⟨?hw_80, ?hy_80⟩) ?hS_80 ?hrest_80
    case hi_80 => (simp only [List.getElem?_toArray, List.getElem?_cons_succ, List.getElem?_cons_zero]; exact rfl)
    case hs_80 => kernel_rfl
    case hf_80 => kernel_rfl
    case hr_80 => kernel_rfl
    case hQ_80 => exact fun _ _ _ h => h
    case hw_80 => rfl
    case hS_80 => assumption
    case hy_80 => (intro w hSw; (try dsimp only at hSw); go_simp; try with_reducible rfl)
    try simp only [Act.put, List.setIfInBounds_toArray, List.set_cons_zero, List.set_cons_succ]
    refine wpAnyH_take (i := 23) (oi := ?oi_81) (v := ?v_81) ?hi_81 ?hs_81 ?hf_81 ?hr_81 ?hQ_81 (Or.inl ⟨?hw_81, ?hy_81⟩) ?hS_81 ?hrest_81
    case hi_81 => (simp only [List.getElem?_toArray, List.getElem?_cons_succ, List.getElem?_cons_zero]; exact rfl)
    case hs_81 => kernel_rfl
    case hf_81 => kernel_rfl
    case hr_81 => kernel_rfl
    case hQ_81 => exact fun _ _ _ h => h
    case hw_81 => rfl
    case hS_81 => assumption
    case hy_81 => (intro w hSw; (try dsimp only at hSw); go_simp; try with_reducible rfl)
    try simp only [Act.put, List.setIfInBounds_toArray, List.set_cons_zero, List.set_cons_succ]
    refine wpAnyH_take (i := 24) (oi := ?oi_82) (v := ?v_82) ?hi_82 ?hs_82 ?hf_82 ?hr_82 ?hQ_82 (Or.inl ⟨?hw_82, ?hy_82⟩) ?hS_82 ?hrest_82
    case hi_82 => (simp only [List.getElem?_toArray, List.getElem?_cons_succ, List.getElem?_cons_zero]; exact rfl)
    case hs_82 => kernel_rfl
    case hf_82 => kernel_rfl
    case hr_82 => kernel_rfl
    case hQ_82 => exact fun _ _ _ h => h
    case hw_82 => rfl
    case hS_82 => assumption
    case hy_82 => (intro w hSw; (try dsimp only at hSw); go_simp; try with_reducible rfl)
    try simp only [Act.put, List.setIfInBounds_toArray, List.set_cons_zero, List.set_cons_succ]
    refine wpAnyH_take (i := 27) (oi := ?oi_83) (v := ?v_83) ?hi_83 ?hs_83 ?hf_83 ?hr_83 ?hQ_83 (Or.inl ⟨?hw_83, ?hy_83⟩) ?hS_83 ?hrest_83
    case hi_83 => (simp only [List.getElem?_toArray, List.getElem?_cons_succ, List.getElem?_cons_zero]; exact rfl)
    case hs_83 => kernel_rfl
    case hf_83 => kernel_rfl
    case hr_83 => kernel_rfl
    case hQ_83 => exact fun _ _ _ h => h
    case hw_83 => rfl
    case hS_83 => assumption
    case hy_83 => (intro w hSw; (try dsimp only at hSw); go_simp; try with_reducible rfl)
    try simp only [Act.put, List.setIfInBounds_toArray, List.set_cons_zero, List.set_cons_succ]
    refine wpAnyH_take (i := 28) (oi := ?oi_84) (v := ?v_84) ?hi_84 ?hs_84 ?hf_84 ?hr_84 ?hQ_84 (Or.inl ⟨?hw_84, ?hy_84⟩) ?hS_84 ?hrest_84
    case hi_84 => (simp only [List.getElem?_toArray, List.getElem?_cons_succ, List.getElem?_cons_zero]; exact rfl)
    case hs_84 => kernel_rfl
    case hf_84 => kernel_rfl
    case hr_84 => kernel_rfl
    case hQ_84 => exact fun _ _ _ h => h
    case hw_84 => rfl
    case hS_84 => assumption
    case hy_84 => (intro w hSw; (try dsimp only at hSw); go_simp; try with_reducible rfl)
    try simp only [Act.put, List.setIfInBounds_toArray, List.set_cons_zero, List.set_cons_succ]
    refine wpAnyH_ready (rs := [25]) (by kernel_rfl) (by simp) ?_
    refine (AllReadyH.cons (o := ?o_95) ?ho_95 (fun K hK => ?st_95) AllReadyH.nil)
    case ho_95 => (simp only [List.getElem?_toArray, List.getElem?_cons_succ, List.getElem?_cons_zero]; exact rfl)
    go_simp
    (go_at_call 15; (with_reducible refine Calls.mono (rb _) ?_); rintro e w6 ⟨g', rfl, hg', hy', b6⟩)
    have z6 := b6.size
    have k3 := (bcell b6).1 bx
    have c5 := k3 0 (by omega); have c6 := k3 1 (by omega)
    have y6 : Bys w6 b off 8 z := y5.below b6 (by omega)
    have e0 := hv2.out _ _ hy'
    clear k3
    refine hK.out _ _ (by first | exact ⟨by simp [*], by simp [*], hv.out _ _ _ _ y6⟩) (fun hHeld => ?_)
    clear hK K
    try simp only [Act.put, List.setIfInBounds_toArray, List.set_cons_zero, List.set_cons_succ]
    refine wpAnyH_ready (rs := [26]) (by kernel_rfl) (by simp) ?_
    refine (AllReadyH.cons (o := ?o_96) ?ho_96 (fun K hK => ?st_96) AllReadyH.nil)
    case ho_96 => (simp only [List.getElem?_toArray, List.getElem?_cons_succ, List.getElem?_cons_zero]; exact rfl)
    go_simp
    refine hK.out _ _ (by first | exact ⟨by simp [*], by simp [*], hv.out _ _ _ _ y6⟩) (fun hHeld => ?_)
    clear hK K
    try simp only [Act.put, List.setIfInBounds_toArray, List.set_cons_zero, List.set_cons_succ]
    refine wpAnyH_take (i := 29) (oi := ?oi_85) (v := ?v_85) ?hi_85 ?hs_85 ?hf_85 ?hr_85 ?hQ_85 (Or.inl ⟨?hw_85, ?hy_85⟩) ?hS_85 ?hrest_85
    case hi_85 => (simp only [List.getElem?_toArray, List.getElem?_cons_succ, List.getElem?_cons_zero]; exact rfl)
    case hs_85 => kernel_rfl
    case hf_85 => kernel_rfl
    case hr_85 => kernel_rfl
    case hQ_85 => exact fun _ _ _ h => h
    case hw_85 => rfl
    case hS_85 => assumption
    case hy_85 => (intro w hSw; (try dsimp only at hSw); go_simp; try with_reducible rfl)
    try simp only [Act.put, List.setIfInBounds_toArray, List.set_cons_zero, List.set_cons_succ]
    refine wpAnyH_take (i := 30) (oi := ?oi_86) (v := ?v_86) ?hi_86 ?hs_86 ?hf_86 ?hr_86 ?hQ_86 (Or.inl ⟨?hw_86, ?hy_86⟩) ?hS_86 ?hrest_86
    case hi_86 => (simp only [List.getElem?_toArray, List.getElem?_cons_succ, List.getElem?_cons_zero]; exact rfl)
    case hs_86 => kernel_rfl
    case hf_86 => kernel_rfl
    case hr_86 => kernel_rfl
    case hQ_86 => exact fun _ _ _ h => h
    case hw_86 => rfl
    case hS_86 => assumption
    case hy_86 => (intro w hSw; (try dsimp only at hSw); go_simp; try with_reducible rfl)
    try simp only [Act.put, List.setIfInBounds_toArray, List.set_cons_zero, List.set_cons_succ]
    refine wpAnyH_take (i := 31) (oi := ?oi_87) (v := ?v_87) ?hi_87 ?hs_87 ?hf_87 ?hr_87 ?hQ_87 (Or.inl ⟨?hw_87, ?hy_87⟩) ?hS_87 ?hrest_87
    case hi_87 => (simp only [List.getElem?_toArray, List.getElem?_cons_succ, List.getElem?_cons_zero]; exact rfl)
    case hs_87 => kernel_rfl
    case hf_87 => kernel_rfl
    case hr_87 => kernel_rfl
    case hQ_87 => exact fun _ _ _ h => h
    case hw_87 => rfl
    case hS_87 => assumption
    case hy_87 => (intro w hSw; (try dsimp only at hSw); go_simp; try with_reducible rfl)
    try simp only [Act.put, List.setIfInBounds_toArray, List.set_cons_zero, List.set_cons_succ]
    refine wpAnyH_done (by kernel_rfl) ?_ _
    refine NoPanic.normal ?_
    go_wp2
    go_ret
    have zB := hB.size
    exact ⟨rfl, by (repeat' (first | (with_reducible first | exact Below.refl _ _ | assumption | refine Below.alloc ?_ ?_ _ | refine Below.drew ?_ | refine below_drewN ?_ _ | refine Below.setCell ?_ ?_ _ | refine below_via (by with_reducible assumption) ?_ ?_) | omega | (simp only [szs]; omega) | (simp only [szs] at *; omega)))⟩

theorem edwardsReads_walk (a : Option Addr) (len cap : Nat) (zs : List Int) (w : World) (w0 : IsRow .u8 w a len cap zs) (hT : TabOk w) :
    Calls Tryd.prog 5 #[.slice a len cap] w fun e w' => e = .returned (.bool true) ∧ Below w.heap.size w w' := by
  by_cases hl : len = 8
  · subst hl
    obtain ⟨b, off, z, rfl, hcap, hm, hz, hY, _⟩ := bys_of_isRow (n := 8) w0 (by omega) (Nat.le_refl _)
    have cn := fun w1 (h : Below w.heap.size w w1) => rnumberW b off 8 cap z hz w1 (by decide) (by unfold maxLen; decide) (hY.below h hY.lt)
    have hnw := Ob.num_word z hz
    have hn : ((Ob.num z 8 : Nat) : Int) % 9223372036854775808 = ((Ob.lowY (Ob.num z 8) : Nat) : Int) := by unfold Ob.lowY; omega
    have hyw : Ob.lowY (Ob.num z 8) < 18446744073709551616 := by unfold Ob.lowY; omega
    have ho : Ob.topO (Ob.num z 8) < 2 := by unfold Ob.topO; omega
    have hod : ((9223372036854775808 : Int) ≤ ((Ob.num z 8 : Nat) : Int)) ↔ Ob.topO (Ob.num z 8) = 1 := by unfold Ob.topO; omega
    have cs := gsquareW (Ob.lowY (Ob.num z 8)) hyw
    by_cases hH : Ob.Has (Ob.num z 8)
    · obtain ⟨u, hu, h1, h2, h3⟩ := Ob.rd_yes hnw hH
      have hN := Ob.edN_of u (Ob.num z 8) h1 h2 hnw
      have cr := fun w1 (h : Below w.heap.size w w1) => eread_yes b off cap z hz w1 (hT.below h hT.lt) (hY.below h hY.lt) hu hN.symm
      have ci := gisW u.1.val u.2.val (Ob.G_word _) (Ob.G_word _)
      rw [Ob.on_isG hu] at ci
      have rb := gbytesW u
      rw [hN] at rb
      rw [← h1] at hn cs
      obtain ⟨hy, hs, h0⟩ := hH
      rw [← h1] at hy hs h0
      have cq := fun w => square_yes _ w (Ob.G_word _) hs
      refine reads_yes b off cap (Ob.num z 8) u.2.val u.1.val _ (decide (Ob.topO (Ob.num z 8) = 1)) z (Ob.byteAt (Ob.num z 8)) w hY (nums_congr _ _ _ fun i hi => Ob.byteAt_num z hz i hi) (by omega) (decide_eq_decide.mpr hod) (decide_eq_decide.mpr (by omega)) ?_ hn cr cn cs cq ci rb
      rcases h0 with h0 | h0
      · refine Or.inl (beq_eq_false_iff_ne.mpr fun e => h0 (Fin.ext ?_))
        exact Int.ofNat.inj e
      · by_cases h4 : Ob.gsqr (Ob.toG u.2.val) = 0
        · exact Or.inr ⟨by rw [h4]; rfl, decide_eq_false (by omega)⟩
        · refine Or.inl (beq_eq_false_iff_ne.mpr fun e => h4 (Fin.ext ?_))
          exact Int.ofNat.inj e
    · have cr := fun w1 (h : Below w.heap.size w w1) => eread_no b off cap z hz w1 (hT.below h hT.lt) (hY.below h hY.lt) hH
      unfold noEd at cr
      by_cases hy : Ob.lowY (Ob.num z 8) < 288230376287764481
      · by_cases hs : Ob.Sq (Ob.gsqr (Ob.toG (Ob.lowY (Ob.num z 8)))).val
        · have cq := fun w => square_yes _ w (Ob.G_word _) hs
          have h0 : Ob.gsqr (Ob.toG (Ob.lowY (Ob.num z 8))) = 0 := Classical.byContradiction fun h => hH ⟨hy, hs, Or.inl h⟩
          have h1 : Ob.topO (Ob.num z 8) = 1 := by
            have : Ob.topO (Ob.num z 8) ≠ 0 := fun h => hH ⟨hy, hs, Or.inr h⟩
            omega
          exact reads_odd b off cap _ _ _ w hn (by omega) (by rw [h0]; rfl) (hod.mpr h1) cr cn cs cq
        · exact reads_none b off cap _ _ _ w hn (by omega) cr cn cs (fun w => square_no _ w (Ob.G_word _) hs)
      · exact reads_big b off cap _ _ w hn (decide_eq_false (by omega)) cr cn
  · exact reads_len a len cap hl w
end Go.Proofs.YtoigpjaffggekaaDoor
