/-
  The walk of layer 2's statement on bytes.
-/
import Derived.Test.YtjfdgkhmjebbgaaLaw02
import Derived.Test.YtjfdgkhmjebbgaaExtB
import Derived.Deep.DeepCutAuto
namespace Go.Proofs.Ytjfdgkhmjebbgaa
open Go.RowKit Go.Proofs
set_option linter.unusedVariables false
set_option linter.unusedSimpArgs false
attribute [local go_sem ↓] Go.wp_at_zero Go.wp_at_succ
attribute [local go_sem] equal_E

theorem codeInfo : ∃ i, Try.prog.info? 40 = some i ∧ i.comparable = true := by
  have h : (Try.prog.info? 40).map (·.comparable) = some true := by kernel_rfl
  cases hi : Try.prog.info? 40 with
  | none => rw [hi] at h; cases h
  | some i => rw [hi] at h; exact ⟨i, rfl, Option.some.inj h⟩
/-- Two errors that are codes are compared as their numbers. -/
theorem equalIn_code (d : Nat) (w : World) (a b : Int) : (Op.equalIn (d + 2) 35 (.iface 40 (.int .i64 a)) (.iface 40 (.int .i64 b))).run Try.prog w = .ok (a == b) w := by
  obtain ⟨i, hi, hc⟩ := codeInfo
  simp [Op.equalIn, run_underlying Try.underlying35, run_underlying Try.underlying40, typeInfo, hi, hc]
theorem eql_code (w : World) (a b : Int) : (binOp .eql 35 (.iface 40 (.int .i64 a)) (.iface 40 (.int .i64 b))).run Try.prog w = .ok (.bool (a == b)) w := by
  have h := equalIn_code (Op.maxDepth - 2) w a b
  have e : Op.maxDepth - 2 + 2 = Op.maxDepth := by decide +kernel
  rw [e] at h
  simp only [binOp]
  simp [Op.equal, h]
theorem neq_code (w : World) (a b : Int) : (binOp .neq 35 (.iface 40 (.int .i64 a)) (.iface 40 (.int .i64 b))).run Try.prog w = .ok (.bool (!(a == b))) w := by
  have h := equalIn_code (Op.maxDepth - 2) w a b
  have e : Op.maxDepth - 2 + 2 = Op.maxDepth := by decide +kernel
  rw [e] at h
  simp only [binOp]
  simp [Op.equal, h]

/-- The bytes that a slice that came in holds, as Below keeps them. -/
theorem codes_str (a0 a1 : Nat) : strOfNums (nums (Ob.byteAt a0) 8) ++ strOfNums (nums (Ob.byteAt a1) 8) = strOfNums (nums (byteOf (pair a0 a1)) 16) := by
  rw [strOfNums_append, nums_add _ 8 8]
  have h1 : nums (Ob.byteAt a0) 8 = nums (byteOf (pair a0 a1)) 8 := nums_congr _ _ _ fun i hi => by
    unfold byteOf
    rw [Nat.div_eq_of_lt hi, Nat.mod_eq_of_lt hi]; rfl
  have h2 : nums (Ob.byteAt a1) 8 = nums (fun i => byteOf (pair a0 a1) (8 + i)) 8 := nums_congr _ _ _ fun i hi => by
    unfold byteOf
    have e1 : (8 + i) / 8 = 1 := by omega
    have e2 : (8 + i) % 8 = i := by omega
    rw [e1, e2]; rfl
  rw [h1, h2]

set_option maxHeartbeats 4000000 in
set_option maxRecDepth 8000 in
theorem codes_yes (a0 a1 : Nat) (x0 x1 : Int) (fv : Value) (ba : Option Addr) (len cap : Nat) (w : World) (h0 : a0 < Ob.P) (h1 : a1 < Ob.P)
   (H : (len ≠ 16 ∧ fv = .iface 40 (.int .i64 3) ∧ x0 = 0 ∧ x1 = 0) ∨ (∃ (b off : Nat) (z : Nat → Nat), ba = some ⟨b, off, none⟩ ∧ len = 16 ∧ 16 ≤ cap ∧ (∀ i, z i < 256) ∧ Bys w b off 16 z ∧ ((Ob.num z 8 < Ob.P ∧ Ob.num (fun i => z (8 + i)) 8 < Ob.P ∧ fv = .nilIface ∧ x0 = (Ob.num z 8 : Nat) ∧ x1 = (Ob.num (fun i => z (8 + i)) 8 : Nat)) ∨ (¬ (Ob.num z 8 < Ob.P ∧ Ob.num (fun i => z (8 + i)) 8 < Ob.P) ∧ fv = .iface 40 (.int .i64 3) ∧ x0 = 0 ∧ x1 = 0))))
   (cr : ∀ w1, Below w.heap.size w w1 → Calls Try.prog 22 #[.slice ba len cap] w1 fun e w' => e = .returned (.tuple #[.agg #[.int .u64 x0, .int .u64 x1], fv]) ∧ Below w1.heap.size w1 w') :
    Calls Try.prog 7 #[.agg #[.int .u64 a0, .int .u64 a1], .slice ba len cap] w fun e w' => e = .returned (.bool true) ∧ Below w.heap.size w w' := by
  have cu := upW
  have cw := writeW_yes a0 a1 h0 h1
  have co := fun w => ofW a0 a1 w (Nat.lt_trans h0 (by decide)) (Nat.lt_trans h1 (by decide))
  have eo : (Ob.toE a0 a1).1.val = a0 ∧ (Ob.toE a0 a1).2.val = a1 := ⟨Nat.mod_eq_of_lt h0, Nat.mod_eq_of_lt h1⟩
  rw [eo.1, eo.2] at co
  have rb0 := rbytesW a0 (Nat.lt_trans h0 (by decide))
  have rb1 := rbytesW a1 (Nat.lt_trans h1 (by decide))
  clear eo h0 h1
  go_enter Try.func7, Try.ntmps7
  go_upto_region 4 with (first | (first | (go_at_call 9; first | (with_reducible refine (cu _).mono ?_; rintro e w_cu ⟨rfl, b_cu⟩; have z_cu := b_cu.size; (try simp only [World.size_alloc, World.size_setCell, World.size_drew, size_drewN] at z_cu); (try (have q1_cu_0 : w.heap.size < w_cu.heap.size := (by omega); have q2_cu_0 := Nat.le_of_lt q1_cu_0; have q3_cu_0 := Nat.ne_of_lt q1_cu_0; have q6_cu_0 := Nat.ne_of_gt q1_cu_0; have q4_cu_0_0 := (bcell b_cu).1 (w.heap.size) 0 (by first | omega | (simp only [World.size_alloc, World.size_setCell, World.size_drew, size_drewN]; omega)); have q5_cu_0_0 := (bcell b_cu).2 (w.heap.size) 0 (by first | omega | (simp only [World.size_alloc, World.size_setCell, World.size_drew, size_drewN]; omega)); have q4_cu_0_1 := (bcell b_cu).1 (w.heap.size) 1 (by first | omega | (simp only [World.size_alloc, World.size_setCell, World.size_drew, size_drewN]; omega)); have q5_cu_0_1 := (bcell b_cu).2 (w.heap.size) 1 (by first | omega | (simp only [World.size_alloc, World.size_setCell, World.size_drew, size_drewN]; omega))))))) | (go_at_call 21; refine (cw _).mono ?_; rintro e w_cw ⟨g, rfl, hg, hy, hfr, b_cw⟩) | (go_at_call 22; refine (cr _ (by (repeat' (first | (with_reducible exact Below.refl _ _) | (with_reducible assumption) | (with_reducible refine Below.alloc ?_ ?_ _) | (with_reducible refine Below.drew ?_) | (with_reducible refine below_drewN ?_ _) | (with_reducible refine Below.setCell ?_ ?_ _) | (with_reducible refine below_via (by with_reducible assumption) ?_ ?_) | omega | (simp only [World.size_alloc, World.size_setCell, World.size_drew, size_drewN]; omega) | (simp only [World.size_alloc, World.size_setCell, World.size_drew, size_drewN] at *; omega))))).mono ?_; rintro e w_cr ⟨rfl, b_cr⟩))
  have z_cw := b_cw.size
  have z_cr := b_cr.size
  try simp only [World.size_alloc] at z_cw z_cr
  have ta : Two (w_cr.alloc (.cells #[.int .u64 x0, .int .u64 x1] 24)) w.heap.size (.int .u64 a0) (.int .u64 a1) := by (repeat' (first | (with_reducible assumption) | (with_reducible exact Two.own (by with_reducible assumption)) | (with_reducible refine Two.set ?_ _ _) | (with_reducible refine Own2.set ?_ _ _) | (with_reducible refine Two.drew ?_) | (with_reducible refine Two.drewN ?_ _) | (with_reducible refine Own2.drew ?_) | (with_reducible refine Own2.drewN ?_ _) | (with_reducible refine Two.new ?_; simp only [World.size_alloc, World.size_setCell, World.size_drew, size_drewN]; done) | (with_reducible refine Own2.new ?_; simp only [World.size_alloc, World.size_setCell, World.size_drew, size_drewN]; done) | (with_reducible refine Two.alloc ?_ _) | (with_reducible refine Own2.alloc ?_ _) | (with_reducible refine Two.far ?_ ?_ _ _) | (with_reducible refine Own2.far ?_ ?_ _ _) | (with_reducible refine Two.via (by with_reducible assumption) ?_ ?_) | (with_reducible refine Own2.via (by with_reducible assumption) ?_ ?_) | omega | (simp only [World.size_alloc, World.size_setCell, World.size_drew, size_drewN]; omega)))
  have tx : Two (w_cr.alloc (.cells #[.int .u64 x0, .int .u64 x1] 24)) w_cr.heap.size (.int .u64 x0) (.int .u64 x1) := by (repeat' (first | (with_reducible assumption) | (with_reducible exact Two.own (by with_reducible assumption)) | (with_reducible refine Two.set ?_ _ _) | (with_reducible refine Own2.set ?_ _ _) | (with_reducible refine Two.drew ?_) | (with_reducible refine Two.drewN ?_ _) | (with_reducible refine Own2.drew ?_) | (with_reducible refine Own2.drewN ?_ _) | (with_reducible refine Two.new ?_; simp only [World.size_alloc, World.size_setCell, World.size_drew, size_drewN]; done) | (with_reducible refine Own2.new ?_; simp only [World.size_alloc, World.size_setCell, World.size_drew, size_drewN]; done) | (with_reducible refine Two.alloc ?_ _) | (with_reducible refine Own2.alloc ?_ _) | (with_reducible refine Two.far ?_ ?_ _ _) | (with_reducible refine Own2.far ?_ ?_ _ _) | (with_reducible refine Two.via (by with_reducible assumption) ?_ ?_) | (with_reducible refine Own2.via (by with_reducible assumption) ?_ ?_) | omega | (simp only [World.size_alloc, World.size_setCell, World.size_drew, size_drewN]; omega)))
  have ty : Bys (w_cr.alloc (.cells #[.int .u64 x0, .int .u64 x1] 24)) g 0 16 (byteOf (pair a0 a1)) := by have := hy.lt; (repeat' (first | (with_reducible assumption) | (with_reducible refine Bys.drew ?_) | (with_reducible refine Bys.drewN ?_ _) | (with_reducible refine Bys.alloc ?_ _) | (with_reducible refine Bys.far ?_ ?_ _ _) | (with_reducible refine Bys.via (by with_reducible assumption) ?_ ?_) | omega | (simp only [World.size_alloc, World.size_setCell, World.size_drew, size_drewN]; omega)))
  have hB : Below w.heap.size w (w_cr.alloc (.cells #[.int .u64 x0, .int .u64 x1] 24)) := by (repeat' (first | (with_reducible exact Below.refl _ _) | (with_reducible assumption) | (with_reducible refine Below.alloc ?_ ?_ _) | (with_reducible refine Below.drew ?_) | (with_reducible refine below_drewN ?_ _) | (with_reducible refine Below.setCell ?_ ?_ _) | (with_reducible refine below_via (by with_reducible assumption) ?_ ?_) | omega | (simp only [World.size_alloc, World.size_setCell, World.size_drew, size_drewN]; omega) | (simp only [World.size_alloc, World.size_setCell, World.size_drew, size_drewN] at *; omega)))
  generalize w_cr.alloc (.cells #[.int .u64 x0, .int .u64 x1] 24) = w4 at ta tx ty hB ⊢
  generalize w_cr.heap.size = bx at tx ⊢
  ((try clear q4_cu_0_0); (try clear q5_cu_0_0); (try clear q4_cu_0_1); (try clear q5_cu_0_1); (try clear q2_cu_0); (try clear q3_cu_0); (try clear q6_cu_0); (try clear q1_cu_0))
  clear cu cw cr b_cu b_cw b_cr z_cu z_cw z_cr hy hg
  have ⟨ta0, ta1, fa0, fa1, la⟩ := ta
  go_region_held3 (fun w' => w'.cell? ⟨w.heap.size, 0, none⟩ = some (.int .u64 a0) ∧ w'.cell? ⟨w.heap.size, 1, none⟩ = some (.int .u64 a1)) (go_keep)
    ((first | (go_at_call 14; first | (with_reducible refine (co _).mono ?_; rintro e w_co ⟨rfl, b_co⟩; have z_co := b_co.size; (try simp only [World.size_alloc, World.size_setCell, World.size_drew, size_drewN] at z_co); (try (have q1_co_0 : w.heap.size < w_co.heap.size := (by omega); have q2_co_0 := Nat.le_of_lt q1_co_0; have q3_co_0 := Nat.ne_of_lt q1_co_0; have q6_co_0 := Nat.ne_of_gt q1_co_0; have q4_co_0_0 := (bcell b_co).1 (w.heap.size) 0 (by first | omega | (simp only [World.size_alloc, World.size_setCell, World.size_drew, size_drewN]; omega)); have q5_co_0_0 := (bcell b_co).2 (w.heap.size) 0 (by first | omega | (simp only [World.size_alloc, World.size_setCell, World.size_drew, size_drewN]; omega)); have q4_co_0_1 := (bcell b_co).1 (w.heap.size) 1 (by first | omega | (simp only [World.size_alloc, World.size_setCell, World.size_drew, size_drewN]; omega)); have q5_co_0_1 := (bcell b_co).2 (w.heap.size) 1 (by first | omega | (simp only [World.size_alloc, World.size_setCell, World.size_drew, size_drewN]; omega))))))))
  have lx := tx.lt
  have ly := ty.lt
  have tb : Two w_co w.heap.size (.int .u64 a0) (.int .u64 a1) := by (repeat' (first | (with_reducible assumption) | (with_reducible exact Two.own (by with_reducible assumption)) | (with_reducible refine Two.set ?_ _ _) | (with_reducible refine Own2.set ?_ _ _) | (with_reducible refine Two.drew ?_) | (with_reducible refine Two.drewN ?_ _) | (with_reducible refine Own2.drew ?_) | (with_reducible refine Own2.drewN ?_ _) | (with_reducible refine Two.new ?_; simp only [World.size_alloc, World.size_setCell, World.size_drew, size_drewN]; done) | (with_reducible refine Own2.new ?_; simp only [World.size_alloc, World.size_setCell, World.size_drew, size_drewN]; done) | (with_reducible refine Two.alloc ?_ _) | (with_reducible refine Own2.alloc ?_ _) | (with_reducible refine Two.far ?_ ?_ _ _) | (with_reducible refine Own2.far ?_ ?_ _ _) | (with_reducible refine Two.via (by with_reducible assumption) ?_ ?_) | (with_reducible refine Own2.via (by with_reducible assumption) ?_ ?_) | omega | (simp only [World.size_alloc, World.size_setCell, World.size_drew, size_drewN]; omega)))
  have tz : Two w_co bx (.int .u64 x0) (.int .u64 x1) := by (repeat' (first | (with_reducible assumption) | (with_reducible exact Two.own (by with_reducible assumption)) | (with_reducible refine Two.set ?_ _ _) | (with_reducible refine Own2.set ?_ _ _) | (with_reducible refine Two.drew ?_) | (with_reducible refine Two.drewN ?_ _) | (with_reducible refine Own2.drew ?_) | (with_reducible refine Own2.drewN ?_ _) | (with_reducible refine Two.new ?_; simp only [World.size_alloc, World.size_setCell, World.size_drew, size_drewN]; done) | (with_reducible refine Own2.new ?_; simp only [World.size_alloc, World.size_setCell, World.size_drew, size_drewN]; done) | (with_reducible refine Two.alloc ?_ _) | (with_reducible refine Own2.alloc ?_ _) | (with_reducible refine Two.far ?_ ?_ _ _) | (with_reducible refine Own2.far ?_ ?_ _ _) | (with_reducible refine Two.via (by with_reducible assumption) ?_ ?_) | (with_reducible refine Own2.via (by with_reducible assumption) ?_ ?_) | omega | (simp only [World.size_alloc, World.size_setCell, World.size_drew, size_drewN]; omega)))
  have tv : Bys w_co g 0 16 (byteOf (pair a0 a1)) := by (repeat' (first | (with_reducible assumption) | (with_reducible refine Bys.drew ?_) | (with_reducible refine Bys.drewN ?_ _) | (with_reducible refine Bys.alloc ?_ _) | (with_reducible refine Bys.far ?_ ?_ _ _) | (with_reducible refine Bys.via (by with_reducible assumption) ?_ ?_) | omega | (simp only [World.size_alloc, World.size_setCell, World.size_drew, size_drewN]; omega)))
  have hB5 : Below w.heap.size w w_co := by (repeat' (first | (with_reducible exact Below.refl _ _) | (with_reducible assumption) | (with_reducible refine Below.alloc ?_ ?_ _) | (with_reducible refine Below.drew ?_) | (with_reducible refine below_drewN ?_ _) | (with_reducible refine Below.setCell ?_ ?_ _) | (with_reducible refine below_via (by with_reducible assumption) ?_ ?_) | omega | (simp only [World.size_alloc, World.size_setCell, World.size_drew, size_drewN]; omega) | (simp only [World.size_alloc, World.size_setCell, World.size_drew, size_drewN] at *; omega)))
  ((try clear q4_co_0_0); (try clear q5_co_0_0); (try clear q4_co_0_1); (try clear q5_co_0_1); (try clear q2_co_0); (try clear q3_co_0); (try clear q6_co_0); (try clear q1_co_0))
  clear ta tx ty hB b_co z_co ta0 ta1 fa0 fa1 la co lx ly
  go_upto_region 7 with fail
  have ⟨ta0, ta1, fa0, fa1, la⟩ := tb
  have lg := tv.lt
  have ltz := tz.lt
  have hstr := codes_str a0 a1
  obtain ⟨sw, hsw⟩ : ∃ s, s = strOfNums (nums (byteOf (pair a0 a1)) 16) := ⟨_, rfl⟩
  obtain ⟨s0, hs0⟩ : ∃ s, s = strOfNums (nums (Ob.byteAt a0) 8) := ⟨_, rfl⟩
  obtain ⟨s1, hs1⟩ : ∃ s, s = strOfNums (nums (Ob.byteAt a1) 8) := ⟨_, rfl⟩
  have hv0 : Hid (∀ w', Bys w' g 0 16 (byteOf (pair a0 a1)) → (convert 33 9 (.slice (some ⟨g, 0, none⟩) 16 16)).run Try.prog w' = .ok (.string sw) w') := by rw [hsw]; exact bys_str g 0 16 16 _
  have hv1 : Hid (∀ b w', Bys w' b 0 8 (Ob.byteAt a0) → (convert 33 9 (.slice (some ⟨b, 0, none⟩) 8 8)).run Try.prog w' = .ok (.string s0) w') := by rw [hs0]; exact fun b => bys_str b 0 8 8 _
  have hv2 : Hid (∀ b w', Bys w' b 0 8 (Ob.byteAt a1) → (convert 33 9 (.slice (some ⟨b, 0, none⟩) 8 8)).run Try.prog w' = .ok (.string s1) w') := by rw [hs1]; exact fun b => bys_str b 0 8 8 _
  have hcat : s0 ++ s1 = sw := by rw [hs0, hs1, hsw]; exact hstr
  have z0 : s0.size = 8 := by rw [hs0, strOfNums_size]; simp [nums]
  have z1 : s1.size = 8 := by rw [hs1, strOfNums_size]; simp [nums]
  clear hstr hsw hs0 hs1
  go_cut [48] (fun s wx => s = .bool false ∧ Two wx bx (.int .u64 x0) (.int .u64 x1) ∧ Below w.heap.size w wx)
  case first =>
    refine wp_region_noPanic ?_
    refine wp_region_held_drew (S := (fun w' => w'.cell? ⟨w.heap.size, 0, none⟩ = some (.int .u64 a0) ∧ w'.cell? ⟨w.heap.size, 1, none⟩ = some (.int .u64 a1) ∧ (convert 33 9 (.slice (some ⟨g, 0, none⟩) 16 16)).run Try.prog w' = .ok (.string sw) w')) (by kernel_rfl) (by first | exact ⟨ta0, ta1, hv0.out _ tv.drew⟩) (fun hHeld => ?_)
    refine wpAnyH_take (i := 0) (oi := ?oi_1) (v := ?v_1) ?hi_1 ?hs_1 ?hf_1 ?hr_1 ?hQ_1 (Or.inl ⟨?hw_1, ?hy_1⟩) ?hS_1 ?hrest_1
    case hi_1 => (simp only [List.getElem?_toArray, List.getElem?_cons_succ, List.getElem?_cons_zero]; exact rfl)
    case hs_1 => kernel_rfl
    case hf_1 => kernel_rfl
    case hr_1 => kernel_rfl
    case hQ_1 => exact fun _ _ _ h => h
    case hw_1 => rfl
    case hS_1 => assumption
    case hy_1 => (intro w hSw; (try dsimp only at hSw); go_simp; try with_reducible rfl)
    try simp only [Act.put, List.setIfInBounds_toArray, List.set_cons_zero, List.set_cons_succ]
    refine wpAnyH_take (i := 1) (oi := ?oi_2) (v := ?v_2) ?hi_2 ?hs_2 ?hf_2 ?hr_2 ?hQ_2 (Or.inl ⟨?hw_2, ?hy_2⟩) ?hS_2 ?hrest_2
    case hi_2 => (simp only [List.getElem?_toArray, List.getElem?_cons_succ, List.getElem?_cons_zero]; exact rfl)
    case hs_2 => kernel_rfl
    case hf_2 => kernel_rfl
    case hr_2 => kernel_rfl
    case hQ_2 => exact fun _ _ _ h => h
    case hw_2 => rfl
    case hS_2 => assumption
    case hy_2 => (intro w hSw; (try dsimp only at hSw); go_simp; try with_reducible rfl)
    try simp only [Act.put, List.setIfInBounds_toArray, List.set_cons_zero, List.set_cons_succ]
    refine wpAnyH_take (i := 2) (oi := ?oi_3) (v := ?v_3) ?hi_3 ?hs_3 ?hf_3 ?hr_3 ?hQ_3 (Or.inl ⟨?hw_3, ?hy_3⟩) ?hS_3 ?hrest_3
    case hi_3 => (simp only [List.getElem?_toArray, List.getElem?_cons_succ, List.getElem?_cons_zero]; exact rfl)
    case hs_3 => kernel_rfl
    case hf_3 => kernel_rfl
    case hr_3 => kernel_rfl
    case hQ_3 => exact fun _ _ _ h => h
    case hw_3 => rfl
    case hS_3 => assumption
    case hy_3 => (intro w hSw; (try dsimp only at hSw); go_simp; try with_reducible rfl)
    try simp only [Act.put, List.setIfInBounds_toArray, List.set_cons_zero, List.set_cons_succ]
    refine wpAnyH_take (i := 3) (oi := ?oi_4) (v := ?v_4) ?hi_4 ?hs_4 ?hf_4 ?hr_4 ?hQ_4 (Or.inl ⟨?hw_4, ?hy_4⟩) ?hS_4 ?hrest_4
    case hi_4 => (simp only [List.getElem?_toArray, List.getElem?_cons_succ, List.getElem?_cons_zero]; exact rfl)
    case hs_4 => kernel_rfl
    case hf_4 => kernel_rfl
    case hr_4 => kernel_rfl
    case hQ_4 => exact fun _ _ _ h => h
    case hw_4 => rfl
    case hS_4 => assumption
    case hy_4 => (intro w hSw; (try dsimp only at hSw); go_simp; try with_reducible rfl)
    try simp only [Act.put, List.setIfInBounds_toArray, List.set_cons_zero, List.set_cons_succ]
    refine wpAnyH_take (i := 5) (oi := ?oi_5) (v := ?v_5) ?hi_5 ?hs_5 ?hf_5 ?hr_5 ?hQ_5 (Or.inl ⟨?hw_5, ?hy_5⟩) ?hS_5 ?hrest_5
    case hi_5 => (simp only [List.getElem?_toArray, List.getElem?_cons_succ, List.getElem?_cons_zero]; exact rfl)
    case hs_5 => kernel_rfl
    case hf_5 => kernel_rfl
    case hr_5 => kernel_rfl
    case hQ_5 => exact fun _ _ _ h => h
    case hw_5 => rfl
    case hS_5 => assumption
    case hy_5 => (intro w hSw; (try dsimp only at hSw); go_simp; try with_reducible rfl)
    try simp only [Act.put, List.setIfInBounds_toArray, List.set_cons_zero, List.set_cons_succ]
    refine wpAnyH_take (i := 6) (oi := ?oi_6) (v := ?v_6) ?hi_6 ?hs_6 ?hf_6 ?hr_6 ?hQ_6 (Or.inl ⟨?hw_6, ?hy_6⟩) ?hS_6 ?hrest_6
    case hi_6 => (simp only [List.getElem?_toArray, List.getElem?_cons_succ, List.getElem?_cons_zero]; exact rfl)
    case hs_6 => kernel_rfl
    case hf_6 => kernel_rfl
    case hr_6 => kernel_rfl
    case hQ_6 => exact fun _ _ _ h => h
    case hw_6 => rfl
    case hS_6 => assumption
    case hy_6 => (intro w hSw; (try dsimp only at hSw); go_simp; try with_reducible rfl)
    try simp only [Act.put, List.setIfInBounds_toArray, List.set_cons_zero, List.set_cons_succ]
    refine wpAnyH_take (i := 9) (oi := ?oi_7) (v := ?v_7) ?hi_7 ?hs_7 ?hf_7 ?hr_7 ?hQ_7 (Or.inl ⟨?hw_7, ?hy_7⟩) ?hS_7 ?hrest_7
    case hi_7 => (simp only [List.getElem?_toArray, List.getElem?_cons_succ, List.getElem?_cons_zero]; exact rfl)
    case hs_7 => kernel_rfl
    case hf_7 => kernel_rfl
    case hr_7 => kernel_rfl
    case hQ_7 => exact fun _ _ _ h => h
    case hw_7 => rfl
    case hS_7 => assumption
    case hy_7 => (intro w hSw; (try dsimp only at hSw); go_simp; try with_reducible rfl)
    try simp only [Act.put, List.setIfInBounds_toArray, List.set_cons_zero, List.set_cons_succ]
    refine wpAnyH_take (i := 10) (oi := ?oi_8) (v := ?v_8) ?hi_8 ?hs_8 ?hf_8 ?hr_8 ?hQ_8 (Or.inl ⟨?hw_8, ?hy_8⟩) ?hS_8 ?hrest_8
    case hi_8 => (simp only [List.getElem?_toArray, List.getElem?_cons_succ, List.getElem?_cons_zero]; exact rfl)
    case hs_8 => kernel_rfl
    case hf_8 => kernel_rfl
    case hr_8 => kernel_rfl
    case hQ_8 => exact fun _ _ _ h => h
    case hw_8 => rfl
    case hS_8 => assumption
    case hy_8 => (intro w hSw; (try dsimp only at hSw); go_simp; try with_reducible rfl)
    try simp only [Act.put, List.setIfInBounds_toArray, List.set_cons_zero, List.set_cons_succ]
    refine wpAnyH_take (i := 4) (oi := ?oi_9) (v := ?v_9) ?hi_9 ?hs_9 ?hf_9 ?hr_9 ?hQ_9 (Or.inl ⟨?hw_9, ?hy_9⟩) ?hS_9 ?hrest_9
    case hi_9 => (simp only [List.getElem?_toArray, List.getElem?_cons_succ, List.getElem?_cons_zero]; exact rfl)
    case hs_9 => kernel_rfl
    case hf_9 => kernel_rfl
    case hr_9 => kernel_rfl
    case hQ_9 => exact fun _ _ _ h => h
    case hw_9 => rfl
    case hS_9 => assumption
    case hy_9 => (intro w hSw; (try dsimp only at hSw); go_simp; try with_reducible rfl)
    try simp only [Act.put, List.setIfInBounds_toArray, List.set_cons_zero, List.set_cons_succ]
    refine wpAnyH_ready (rs := [7]) (by kernel_rfl) (by simp) ?_
    refine (AllReadyH.cons (o := ?o_19) ?ho_19 (fun K hK => ?st_19) AllReadyH.nil)
    case ho_19 => (simp only [List.getElem?_toArray, List.getElem?_cons_succ, List.getElem?_cons_zero]; exact rfl)
    go_simp
    (first | (go_at_call 23; first | (with_reducible refine (rb0 _).mono ?_; rintro e w_rb0 ⟨rfl, y_rb0, b_rb0⟩; have z_rb0 := b_rb0.size; (try simp only [World.size_alloc, World.size_setCell, World.size_drew, size_drewN] at z_rb0); (try simp only [World.size_alloc, World.size_setCell, World.size_drew, size_drewN] at y_rb0); (try (have q1_rb0_0 : w.heap.size < w_rb0.heap.size := (by omega); have q2_rb0_0 := Nat.le_of_lt q1_rb0_0; have q3_rb0_0 := Nat.ne_of_lt q1_rb0_0; have q6_rb0_0 := Nat.ne_of_gt q1_rb0_0; have q4_rb0_0_0 := (bcell b_rb0).1 (w.heap.size) 0 (by first | omega | (simp only [World.size_alloc, World.size_setCell, World.size_drew, size_drewN]; omega)); have q5_rb0_0_0 := (bcell b_rb0).2 (w.heap.size) 0 (by first | omega | (simp only [World.size_alloc, World.size_setCell, World.size_drew, size_drewN]; omega)); have q4_rb0_0_1 := (bcell b_rb0).1 (w.heap.size) 1 (by first | omega | (simp only [World.size_alloc, World.size_setCell, World.size_drew, size_drewN]; omega)); have q5_rb0_0_1 := (bcell b_rb0).2 (w.heap.size) 1 (by first | omega | (simp only [World.size_alloc, World.size_setCell, World.size_drew, size_drewN]; omega))))) | (with_reducible refine (rb1 _).mono ?_; rintro e w_rb1 ⟨rfl, y_rb1, b_rb1⟩; have z_rb1 := b_rb1.size; (try simp only [World.size_alloc, World.size_setCell, World.size_drew, size_drewN] at z_rb1); (try simp only [World.size_alloc, World.size_setCell, World.size_drew, size_drewN] at y_rb1); (try (have q1_rb1_0 : w.heap.size < w_rb1.heap.size := (by omega); have q2_rb1_0 := Nat.le_of_lt q1_rb1_0; have q3_rb1_0 := Nat.ne_of_lt q1_rb1_0; have q6_rb1_0 := Nat.ne_of_gt q1_rb1_0; have q4_rb1_0_0 := (bcell b_rb1).1 (w.heap.size) 0 (by first | omega | (simp only [World.size_alloc, World.size_setCell, World.size_drew, size_drewN]; omega)); have q5_rb1_0_0 := (bcell b_rb1).2 (w.heap.size) 0 (by first | omega | (simp only [World.size_alloc, World.size_setCell, World.size_drew, size_drewN]; omega)); have q4_rb1_0_1 := (bcell b_rb1).1 (w.heap.size) 1 (by first | omega | (simp only [World.size_alloc, World.size_setCell, World.size_drew, size_drewN]; omega)); have q5_rb1_0_1 := (bcell b_rb1).2 (w.heap.size) 1 (by first | omega | (simp only [World.size_alloc, World.size_setCell, World.size_drew, size_drewN]; omega)))))))
    have e0 := hv1.out _ _ y_rb0
    have lco := y_rb0.lt
    refine hK.out _ _ (by first | exact ⟨by simp only [*], by simp only [*], hv0.out _ (by (repeat' (first | (with_reducible assumption) | (with_reducible refine Bys.drew ?_) | (with_reducible refine Bys.drewN ?_ _) | (with_reducible refine Bys.alloc ?_ _) | (with_reducible refine Bys.far ?_ ?_ _ _) | (with_reducible refine Bys.via (by with_reducible assumption) ?_ ?_) | omega | (simp only [World.size_alloc, World.size_setCell, World.size_drew, size_drewN]; omega))))⟩) (fun hHeld => ?_)
    clear hK K
    try simp only [Act.put, List.setIfInBounds_toArray, List.set_cons_zero, List.set_cons_succ]
    refine wpAnyH_ready (rs := [8, 11]) (by kernel_rfl) (by simp) ?_
    refine (AllReadyH.cons (o := ?o_21) ?ho_21 (fun K hK => ?st_21) (AllReadyH.cons (o := ?o_20) ?ho_20 (fun K hK => ?st_20) AllReadyH.nil))
    case ho_21 => (simp only [List.getElem?_toArray, List.getElem?_cons_succ, List.getElem?_cons_zero]; exact rfl)
    case ho_20 => (simp only [List.getElem?_toArray, List.getElem?_cons_succ, List.getElem?_cons_zero]; exact rfl)
    · go_simp
      refine hK.out _ _ (by first | exact ⟨by simp only [*], by simp only [*], hv0.out _ (by (repeat' (first | (with_reducible assumption) | (with_reducible refine Bys.drew ?_) | (with_reducible refine Bys.drewN ?_ _) | (with_reducible refine Bys.alloc ?_ _) | (with_reducible refine Bys.far ?_ ?_ _ _) | (with_reducible refine Bys.via (by with_reducible assumption) ?_ ?_) | omega | (simp only [World.size_alloc, World.size_setCell, World.size_drew, size_drewN]; omega))))⟩) (fun hHeld => ?_)
      clear hK K
      try simp only [Act.put, List.setIfInBounds_toArray, List.set_cons_zero, List.set_cons_succ]
      refine wpAnyH_ready (rs := [11]) (by kernel_rfl) (by simp) ?_
      refine (AllReadyH.cons (o := ?o_22) ?ho_22 (fun K hK => ?st_22) AllReadyH.nil)
      case ho_22 => (simp only [List.getElem?_toArray, List.getElem?_cons_succ, List.getElem?_cons_zero]; exact rfl)
      go_simp
      (first | (go_at_call 23; first | (with_reducible refine (rb0 _).mono ?_; rintro e w_rb0 ⟨rfl, y_rb0, b_rb0⟩; have z_rb0 := b_rb0.size; (try simp only [World.size_alloc, World.size_setCell, World.size_drew, size_drewN] at z_rb0); (try simp only [World.size_alloc, World.size_setCell, World.size_drew, size_drewN] at y_rb0); (try (have q1_rb0_0 : w.heap.size < w_rb0.heap.size := (by omega); have q2_rb0_0 := Nat.le_of_lt q1_rb0_0; have q3_rb0_0 := Nat.ne_of_lt q1_rb0_0; have q6_rb0_0 := Nat.ne_of_gt q1_rb0_0; have q4_rb0_0_0 := (bcell b_rb0).1 (w.heap.size) 0 (by first | omega | (simp only [World.size_alloc, World.size_setCell, World.size_drew, size_drewN]; omega)); have q5_rb0_0_0 := (bcell b_rb0).2 (w.heap.size) 0 (by first | omega | (simp only [World.size_alloc, World.size_setCell, World.size_drew, size_drewN]; omega)); have q4_rb0_0_1 := (bcell b_rb0).1 (w.heap.size) 1 (by first | omega | (simp only [World.size_alloc, World.size_setCell, World.size_drew, size_drewN]; omega)); have q5_rb0_0_1 := (bcell b_rb0).2 (w.heap.size) 1 (by first | omega | (simp only [World.size_alloc, World.size_setCell, World.size_drew, size_drewN]; omega))))) | (with_reducible refine (rb1 _).mono ?_; rintro e w_rb1 ⟨rfl, y_rb1, b_rb1⟩; have z_rb1 := b_rb1.size; (try simp only [World.size_alloc, World.size_setCell, World.size_drew, size_drewN] at z_rb1); (try simp only [World.size_alloc, World.size_setCell, World.size_drew, size_drewN] at y_rb1); (try (have q1_rb1_0 : w.heap.size < w_rb1.heap.size := (by omega); have q2_rb1_0 := Nat.le_of_lt q1_rb1_0; have q3_rb1_0 := Nat.ne_of_lt q1_rb1_0; have q6_rb1_0 := Nat.ne_of_gt q1_rb1_0; have q4_rb1_0_0 := (bcell b_rb1).1 (w.heap.size) 0 (by first | omega | (simp only [World.size_alloc, World.size_setCell, World.size_drew, size_drewN]; omega)); have q5_rb1_0_0 := (bcell b_rb1).2 (w.heap.size) 0 (by first | omega | (simp only [World.size_alloc, World.size_setCell, World.size_drew, size_drewN]; omega)); have q4_rb1_0_1 := (bcell b_rb1).1 (w.heap.size) 1 (by first | omega | (simp only [World.size_alloc, World.size_setCell, World.size_drew, size_drewN]; omega)); have q5_rb1_0_1 := (bcell b_rb1).2 (w.heap.size) 1 (by first | omega | (simp only [World.size_alloc, World.size_setCell, World.size_drew, size_drewN]; omega)))))))
      have y01 : Bys w_rb1 w_co.heap.size 0 8 (Ob.byteAt a0) := by (repeat' (first | (with_reducible assumption) | (with_reducible refine Bys.drew ?_) | (with_reducible refine Bys.drewN ?_ _) | (with_reducible refine Bys.alloc ?_ _) | (with_reducible refine Bys.far ?_ ?_ _ _) | (with_reducible refine Bys.via (by with_reducible assumption) ?_ ?_) | omega | (simp only [World.size_alloc, World.size_setCell, World.size_drew, size_drewN]; omega)))
      have e1 := hv1.out _ _ y01
      have e2 := hv2.out _ _ y_rb1
      refine hK.out _ _ (by first | exact ⟨by simp only [*], by simp only [*], hv0.out _ (by (repeat' (first | (with_reducible assumption) | (with_reducible refine Bys.drew ?_) | (with_reducible refine Bys.drewN ?_ _) | (with_reducible refine Bys.alloc ?_ _) | (with_reducible refine Bys.far ?_ ?_ _ _) | (with_reducible refine Bys.via (by with_reducible assumption) ?_ ?_) | omega | (simp only [World.size_alloc, World.size_setCell, World.size_drew, size_drewN]; omega))))⟩) (fun hHeld => ?_)
      clear hK K
      try simp only [Act.put, List.setIfInBounds_toArray, List.set_cons_zero, List.set_cons_succ]
      refine wpAnyH_ready (rs := [12]) (by kernel_rfl) (by simp) ?_
      refine (AllReadyH.cons (o := ?o_23) ?ho_23 (fun K hK => ?st_23) AllReadyH.nil)
      case ho_23 => (simp only [List.getElem?_toArray, List.getElem?_cons_succ, List.getElem?_cons_zero]; exact rfl)
      go_simp
      refine hK.out _ _ (by first | exact ⟨by simp only [*], by simp only [*], hv0.out _ (by (repeat' (first | (with_reducible assumption) | (with_reducible refine Bys.drew ?_) | (with_reducible refine Bys.drewN ?_ _) | (with_reducible refine Bys.alloc ?_ _) | (with_reducible refine Bys.far ?_ ?_ _ _) | (with_reducible refine Bys.via (by with_reducible assumption) ?_ ?_) | omega | (simp only [World.size_alloc, World.size_setCell, World.size_drew, size_drewN]; omega))))⟩) (fun hHeld => ?_)
      clear hK K
      try simp only [Act.put, List.setIfInBounds_toArray, List.set_cons_zero, List.set_cons_succ]
      refine wpAnyH_take (i := 13) (oi := ?oi_10) (v := ?v_10) ?hi_10 ?hs_10 ?hf_10 ?hr_10 ?hQ_10 (Or.inl ⟨?hw_10, ?hy_10⟩) ?hS_10 ?hrest_10
      case hi_10 => (simp only [List.getElem?_toArray, List.getElem?_cons_succ, List.getElem?_cons_zero]; exact rfl)
      case hs_10 => kernel_rfl
      case hf_10 => kernel_rfl
      case hr_10 => kernel_rfl
      case hQ_10 => exact fun _ _ _ h => h
      case hw_10 => rfl
      case hS_10 => assumption
      case hy_10 => (intro w hSw; (try dsimp only at hSw); go_simp; try with_reducible rfl)
      try simp only [Act.put, List.setIfInBounds_toArray, List.set_cons_zero, List.set_cons_succ]
      refine wpAnyH_take (i := 14) (oi := ?oi_11) (v := ?v_11) ?hi_11 ?hs_11 ?hf_11 ?hr_11 ?hQ_11 (Or.inl ⟨?hw_11, ?hy_11⟩) ?hS_11 ?hrest_11
      case hi_11 => (simp only [List.getElem?_toArray, List.getElem?_cons_succ, List.getElem?_cons_zero]; exact rfl)
      case hs_11 => kernel_rfl
      case hf_11 => kernel_rfl
      case hr_11 => kernel_rfl
      case hQ_11 => exact fun _ _ _ h => h
      case hw_11 => rfl
      case hS_11 => assumption
      case hy_11 => (intro w hSw; (try dsimp only at hSw); go_simp; try with_reducible rfl)
      try simp only [Act.put, List.setIfInBounds_toArray, List.set_cons_zero, List.set_cons_succ]
      refine wpAnyH_take (i := 15) (oi := ?oi_12) (v := ?v_12) ?hi_12 ?hs_12 ?hf_12 ?hr_12 ?hQ_12 (Or.inl ⟨?hw_12, ?hy_12⟩) ?hS_12 ?hrest_12
      case hi_12 => (simp only [List.getElem?_toArray, List.getElem?_cons_succ, List.getElem?_cons_zero]; exact rfl)
      case hs_12 => kernel_rfl
      case hf_12 => kernel_rfl
      case hr_12 => kernel_rfl
      case hQ_12 => exact fun _ _ _ h => h
      case hw_12 => rfl
      case hS_12 => assumption
      case hy_12 => (intro w hSw; (try dsimp only at hSw); go_simp; try with_reducible rfl)
      try simp only [Act.put, List.setIfInBounds_toArray, List.set_cons_zero, List.set_cons_succ]
      refine wpAnyH_done (by kernel_rfl) ?_ _
      refine NoPanic.normal ?_
      go_wp2
      go_meet
      case rel => exact ⟨rfl, by (repeat' (first | (with_reducible assumption) | (with_reducible exact Two.own (by with_reducible assumption)) | (with_reducible refine Two.set ?_ _ _) | (with_reducible refine Own2.set ?_ _ _) | (with_reducible refine Two.drew ?_) | (with_reducible refine Two.drewN ?_ _) | (with_reducible refine Own2.drew ?_) | (with_reducible refine Own2.drewN ?_ _) | (with_reducible refine Two.new ?_; simp only [World.size_alloc, World.size_setCell, World.size_drew, size_drewN]; done) | (with_reducible refine Own2.new ?_; simp only [World.size_alloc, World.size_setCell, World.size_drew, size_drewN]; done) | (with_reducible refine Two.alloc ?_ _) | (with_reducible refine Own2.alloc ?_ _) | (with_reducible refine Two.far ?_ ?_ _ _) | (with_reducible refine Own2.far ?_ ?_ _ _) | (with_reducible refine Two.via (by with_reducible assumption) ?_ ?_) | (with_reducible refine Own2.via (by with_reducible assumption) ?_ ?_) | omega | (simp only [World.size_alloc, World.size_setCell, World.size_drew, size_drewN]; omega))), by (repeat' (first | (with_reducible exact Below.refl _ _) | (with_reducible assumption) | (with_reducible refine Below.alloc ?_ ?_ _) | (with_reducible refine Below.drew ?_) | (with_reducible refine below_drewN ?_ _) | (with_reducible refine Below.setCell ?_ ?_ _) | (with_reducible refine below_via (by with_reducible assumption) ?_ ?_) | omega | (simp only [World.size_alloc, World.size_setCell, World.size_drew, size_drewN]; omega) | (simp only [World.size_alloc, World.size_setCell, World.size_drew, size_drewN] at *; omega)))⟩
    · go_simp
      (first | (go_at_call 23; first | (with_reducible refine (rb0 _).mono ?_; rintro e w_rb0 ⟨rfl, y_rb0, b_rb0⟩; have z_rb0 := b_rb0.size; (try simp only [World.size_alloc, World.size_setCell, World.size_drew, size_drewN] at z_rb0); (try simp only [World.size_alloc, World.size_setCell, World.size_drew, size_drewN] at y_rb0); (try (have q1_rb0_0 : w.heap.size < w_rb0.heap.size := (by omega); have q2_rb0_0 := Nat.le_of_lt q1_rb0_0; have q3_rb0_0 := Nat.ne_of_lt q1_rb0_0; have q6_rb0_0 := Nat.ne_of_gt q1_rb0_0; have q4_rb0_0_0 := (bcell b_rb0).1 (w.heap.size) 0 (by first | omega | (simp only [World.size_alloc, World.size_setCell, World.size_drew, size_drewN]; omega)); have q5_rb0_0_0 := (bcell b_rb0).2 (w.heap.size) 0 (by first | omega | (simp only [World.size_alloc, World.size_setCell, World.size_drew, size_drewN]; omega)); have q4_rb0_0_1 := (bcell b_rb0).1 (w.heap.size) 1 (by first | omega | (simp only [World.size_alloc, World.size_setCell, World.size_drew, size_drewN]; omega)); have q5_rb0_0_1 := (bcell b_rb0).2 (w.heap.size) 1 (by first | omega | (simp only [World.size_alloc, World.size_setCell, World.size_drew, size_drewN]; omega))))) | (with_reducible refine (rb1 _).mono ?_; rintro e w_rb1 ⟨rfl, y_rb1, b_rb1⟩; have z_rb1 := b_rb1.size; (try simp only [World.size_alloc, World.size_setCell, World.size_drew, size_drewN] at z_rb1); (try simp only [World.size_alloc, World.size_setCell, World.size_drew, size_drewN] at y_rb1); (try (have q1_rb1_0 : w.heap.size < w_rb1.heap.size := (by omega); have q2_rb1_0 := Nat.le_of_lt q1_rb1_0; have q3_rb1_0 := Nat.ne_of_lt q1_rb1_0; have q6_rb1_0 := Nat.ne_of_gt q1_rb1_0; have q4_rb1_0_0 := (bcell b_rb1).1 (w.heap.size) 0 (by first | omega | (simp only [World.size_alloc, World.size_setCell, World.size_drew, size_drewN]; omega)); have q5_rb1_0_0 := (bcell b_rb1).2 (w.heap.size) 0 (by first | omega | (simp only [World.size_alloc, World.size_setCell, World.size_drew, size_drewN]; omega)); have q4_rb1_0_1 := (bcell b_rb1).1 (w.heap.size) 1 (by first | omega | (simp only [World.size_alloc, World.size_setCell, World.size_drew, size_drewN]; omega)); have q5_rb1_0_1 := (bcell b_rb1).2 (w.heap.size) 1 (by first | omega | (simp only [World.size_alloc, World.size_setCell, World.size_drew, size_drewN]; omega)))))))
      have y01 : Bys w_rb1 w_co.heap.size 0 8 (Ob.byteAt a0) := by (repeat' (first | (with_reducible assumption) | (with_reducible refine Bys.drew ?_) | (with_reducible refine Bys.drewN ?_ _) | (with_reducible refine Bys.alloc ?_ _) | (with_reducible refine Bys.far ?_ ?_ _ _) | (with_reducible refine Bys.via (by with_reducible assumption) ?_ ?_) | omega | (simp only [World.size_alloc, World.size_setCell, World.size_drew, size_drewN]; omega)))
      have e1 := hv1.out _ _ y01
      have e2 := hv2.out _ _ y_rb1
      refine hK.out _ _ (by first | exact ⟨by simp only [*], by simp only [*], hv0.out _ (by (repeat' (first | (with_reducible assumption) | (with_reducible refine Bys.drew ?_) | (with_reducible refine Bys.drewN ?_ _) | (with_reducible refine Bys.alloc ?_ _) | (with_reducible refine Bys.far ?_ ?_ _ _) | (with_reducible refine Bys.via (by with_reducible assumption) ?_ ?_) | omega | (simp only [World.size_alloc, World.size_setCell, World.size_drew, size_drewN]; omega))))⟩) (fun hHeld => ?_)
      clear hK K
      try simp only [Act.put, List.setIfInBounds_toArray, List.set_cons_zero, List.set_cons_succ]
      refine wpAnyH_ready (rs := [8, 12]) (by kernel_rfl) (by simp) ?_
      refine (AllReadyH.cons (o := ?o_25) ?ho_25 (fun K hK => ?st_25) (AllReadyH.cons (o := ?o_24) ?ho_24 (fun K hK => ?st_24) AllReadyH.nil))
      case ho_25 => (simp only [List.getElem?_toArray, List.getElem?_cons_succ, List.getElem?_cons_zero]; exact rfl)
      case ho_24 => (simp only [List.getElem?_toArray, List.getElem?_cons_succ, List.getElem?_cons_zero]; exact rfl)
      · go_simp
        refine hK.out _ _ (by first | exact ⟨by simp only [*], by simp only [*], hv0.out _ (by (repeat' (first | (with_reducible assumption) | (with_reducible refine Bys.drew ?_) | (with_reducible refine Bys.drewN ?_ _) | (with_reducible refine Bys.alloc ?_ _) | (with_reducible refine Bys.far ?_ ?_ _ _) | (with_reducible refine Bys.via (by with_reducible assumption) ?_ ?_) | omega | (simp only [World.size_alloc, World.size_setCell, World.size_drew, size_drewN]; omega))))⟩) (fun hHeld => ?_)
        clear hK K
        try simp only [Act.put, List.setIfInBounds_toArray, List.set_cons_zero, List.set_cons_succ]
        refine wpAnyH_ready (rs := [12]) (by kernel_rfl) (by simp) ?_
        refine (AllReadyH.cons (o := ?o_26) ?ho_26 (fun K hK => ?st_26) AllReadyH.nil)
        case ho_26 => (simp only [List.getElem?_toArray, List.getElem?_cons_succ, List.getElem?_cons_zero]; exact rfl)
        go_simp
        refine hK.out _ _ (by first | exact ⟨by simp only [*], by simp only [*], hv0.out _ (by (repeat' (first | (with_reducible assumption) | (with_reducible refine Bys.drew ?_) | (with_reducible refine Bys.drewN ?_ _) | (with_reducible refine Bys.alloc ?_ _) | (with_reducible refine Bys.far ?_ ?_ _ _) | (with_reducible refine Bys.via (by with_reducible assumption) ?_ ?_) | omega | (simp only [World.size_alloc, World.size_setCell, World.size_drew, size_drewN]; omega))))⟩) (fun hHeld => ?_)
        clear hK K
        try simp only [Act.put, List.setIfInBounds_toArray, List.set_cons_zero, List.set_cons_succ]
        refine wpAnyH_take (i := 13) (oi := ?oi_13) (v := ?v_13) ?hi_13 ?hs_13 ?hf_13 ?hr_13 ?hQ_13 (Or.inl ⟨?hw_13, ?hy_13⟩) ?hS_13 ?hrest_13
        case hi_13 => (simp only [List.getElem?_toArray, List.getElem?_cons_succ, List.getElem?_cons_zero]; exact rfl)
        case hs_13 => kernel_rfl
        case hf_13 => kernel_rfl
        case hr_13 => kernel_rfl
        case hQ_13 => exact fun _ _ _ h => h
        case hw_13 => rfl
        case hS_13 => assumption
        case hy_13 => (intro w hSw; (try dsimp only at hSw); go_simp; try with_reducible rfl)
        try simp only [Act.put, List.setIfInBounds_toArray, List.set_cons_zero, List.set_cons_succ]
        refine wpAnyH_take (i := 14) (oi := ?oi_14) (v := ?v_14) ?hi_14 ?hs_14 ?hf_14 ?hr_14 ?hQ_14 (Or.inl ⟨?hw_14, ?hy_14⟩) ?hS_14 ?hrest_14
        case hi_14 => (simp only [List.getElem?_toArray, List.getElem?_cons_succ, List.getElem?_cons_zero]; exact rfl)
        case hs_14 => kernel_rfl
        case hf_14 => kernel_rfl
        case hr_14 => kernel_rfl
        case hQ_14 => exact fun _ _ _ h => h
        case hw_14 => rfl
        case hS_14 => assumption
        case hy_14 => (intro w hSw; (try dsimp only at hSw); go_simp; try with_reducible rfl)
        try simp only [Act.put, List.setIfInBounds_toArray, List.set_cons_zero, List.set_cons_succ]
        refine wpAnyH_take (i := 15) (oi := ?oi_15) (v := ?v_15) ?hi_15 ?hs_15 ?hf_15 ?hr_15 ?hQ_15 (Or.inl ⟨?hw_15, ?hy_15⟩) ?hS_15 ?hrest_15
        case hi_15 => (simp only [List.getElem?_toArray, List.getElem?_cons_succ, List.getElem?_cons_zero]; exact rfl)
        case hs_15 => kernel_rfl
        case hf_15 => kernel_rfl
        case hr_15 => kernel_rfl
        case hQ_15 => exact fun _ _ _ h => h
        case hw_15 => rfl
        case hS_15 => assumption
        case hy_15 => (intro w hSw; (try dsimp only at hSw); go_simp; try with_reducible rfl)
        try simp only [Act.put, List.setIfInBounds_toArray, List.set_cons_zero, List.set_cons_succ]
        refine wpAnyH_done (by kernel_rfl) ?_ _
        refine NoPanic.normal ?_
        go_wp2
        go_meet
        case rel => exact ⟨rfl, by (repeat' (first | (with_reducible assumption) | (with_reducible exact Two.own (by with_reducible assumption)) | (with_reducible refine Two.set ?_ _ _) | (with_reducible refine Own2.set ?_ _ _) | (with_reducible refine Two.drew ?_) | (with_reducible refine Two.drewN ?_ _) | (with_reducible refine Own2.drew ?_) | (with_reducible refine Own2.drewN ?_ _) | (with_reducible refine Two.new ?_; simp only [World.size_alloc, World.size_setCell, World.size_drew, size_drewN]; done) | (with_reducible refine Own2.new ?_; simp only [World.size_alloc, World.size_setCell, World.size_drew, size_drewN]; done) | (with_reducible refine Two.alloc ?_ _) | (with_reducible refine Own2.alloc ?_ _) | (with_reducible refine Two.far ?_ ?_ _ _) | (with_reducible refine Own2.far ?_ ?_ _ _) | (with_reducible refine Two.via (by with_reducible assumption) ?_ ?_) | (with_reducible refine Own2.via (by with_reducible assumption) ?_ ?_) | omega | (simp only [World.size_alloc, World.size_setCell, World.size_drew, size_drewN]; omega))), by (repeat' (first | (with_reducible exact Below.refl _ _) | (with_reducible assumption) | (with_reducible refine Below.alloc ?_ ?_ _) | (with_reducible refine Below.drew ?_) | (with_reducible refine below_drewN ?_ _) | (with_reducible refine Below.setCell ?_ ?_ _) | (with_reducible refine below_via (by with_reducible assumption) ?_ ?_) | omega | (simp only [World.size_alloc, World.size_setCell, World.size_drew, size_drewN]; omega) | (simp only [World.size_alloc, World.size_setCell, World.size_drew, size_drewN] at *; omega)))⟩
      · go_simp
        refine hK.out _ _ (by first | exact ⟨by simp only [*], by simp only [*], hv0.out _ (by (repeat' (first | (with_reducible assumption) | (with_reducible refine Bys.drew ?_) | (with_reducible refine Bys.drewN ?_ _) | (with_reducible refine Bys.alloc ?_ _) | (with_reducible refine Bys.far ?_ ?_ _ _) | (with_reducible refine Bys.via (by with_reducible assumption) ?_ ?_) | omega | (simp only [World.size_alloc, World.size_setCell, World.size_drew, size_drewN]; omega))))⟩) (fun hHeld => ?_)
        clear hK K
        try simp only [Act.put, List.setIfInBounds_toArray, List.set_cons_zero, List.set_cons_succ]
        refine wpAnyH_ready (rs := [8]) (by kernel_rfl) (by simp) ?_
        refine (AllReadyH.cons (o := ?o_27) ?ho_27 (fun K hK => ?st_27) AllReadyH.nil)
        case ho_27 => (simp only [List.getElem?_toArray, List.getElem?_cons_succ, List.getElem?_cons_zero]; exact rfl)
        go_simp
        refine hK.out _ _ (by first | exact ⟨by simp only [*], by simp only [*], hv0.out _ (by (repeat' (first | (with_reducible assumption) | (with_reducible refine Bys.drew ?_) | (with_reducible refine Bys.drewN ?_ _) | (with_reducible refine Bys.alloc ?_ _) | (with_reducible refine Bys.far ?_ ?_ _ _) | (with_reducible refine Bys.via (by with_reducible assumption) ?_ ?_) | omega | (simp only [World.size_alloc, World.size_setCell, World.size_drew, size_drewN]; omega))))⟩) (fun hHeld => ?_)
        clear hK K
        try simp only [Act.put, List.setIfInBounds_toArray, List.set_cons_zero, List.set_cons_succ]
        refine wpAnyH_take (i := 13) (oi := ?oi_16) (v := ?v_16) ?hi_16 ?hs_16 ?hf_16 ?hr_16 ?hQ_16 (Or.inl ⟨?hw_16, ?hy_16⟩) ?hS_16 ?hrest_16
        case hi_16 => (simp only [List.getElem?_toArray, List.getElem?_cons_succ, List.getElem?_cons_zero]; exact rfl)
        case hs_16 => kernel_rfl
        case hf_16 => kernel_rfl
        case hr_16 => kernel_rfl
        case hQ_16 => exact fun _ _ _ h => h
        case hw_16 => rfl
        case hS_16 => assumption
        case hy_16 => (intro w hSw; (try dsimp only at hSw); go_simp; try with_reducible rfl)
        try simp only [Act.put, List.setIfInBounds_toArray, List.set_cons_zero, List.set_cons_succ]
        refine wpAnyH_take (i := 14) (oi := ?oi_17) (v := ?v_17) ?hi_17 ?hs_17 ?hf_17 ?hr_17 ?hQ_17 (Or.inl ⟨?hw_17, ?hy_17⟩) ?hS_17 ?hrest_17
        case hi_17 => (simp only [List.getElem?_toArray, List.getElem?_cons_succ, List.getElem?_cons_zero]; exact rfl)
        case hs_17 => kernel_rfl
        case hf_17 => kernel_rfl
        case hr_17 => kernel_rfl
        case hQ_17 => exact fun _ _ _ h => h
        case hw_17 => rfl
        case hS_17 => assumption
        case hy_17 => (intro w hSw; (try dsimp only at hSw); go_simp; try with_reducible rfl)
        try simp only [Act.put, List.setIfInBounds_toArray, List.set_cons_zero, List.set_cons_succ]
        refine wpAnyH_take (i := 15) (oi := ?oi_18) (v := ?v_18) ?hi_18 ?hs_18 ?hf_18 ?hr_18 ?hQ_18 (Or.inl ⟨?hw_18, ?hy_18⟩) ?hS_18 ?hrest_18
        case hi_18 => (simp only [List.getElem?_toArray, List.getElem?_cons_succ, List.getElem?_cons_zero]; exact rfl)
        case hs_18 => kernel_rfl
        case hf_18 => kernel_rfl
        case hr_18 => kernel_rfl
        case hQ_18 => exact fun _ _ _ h => h
        case hw_18 => rfl
        case hS_18 => assumption
        case hy_18 => (intro w hSw; (try dsimp only at hSw); go_simp; try with_reducible rfl)
        try simp only [Act.put, List.setIfInBounds_toArray, List.set_cons_zero, List.set_cons_succ]
        refine wpAnyH_done (by kernel_rfl) ?_ _
        refine NoPanic.normal ?_
        go_wp2
        go_meet
        case rel => exact ⟨rfl, by (repeat' (first | (with_reducible assumption) | (with_reducible exact Two.own (by with_reducible assumption)) | (with_reducible refine Two.set ?_ _ _) | (with_reducible refine Own2.set ?_ _ _) | (with_reducible refine Two.drew ?_) | (with_reducible refine Two.drewN ?_ _) | (with_reducible refine Own2.drew ?_) | (with_reducible refine Own2.drewN ?_ _) | (with_reducible refine Two.new ?_; simp only [World.size_alloc, World.size_setCell, World.size_drew, size_drewN]; done) | (with_reducible refine Own2.new ?_; simp only [World.size_alloc, World.size_setCell, World.size_drew, size_drewN]; done) | (with_reducible refine Two.alloc ?_ _) | (with_reducible refine Own2.alloc ?_ _) | (with_reducible refine Two.far ?_ ?_ _ _) | (with_reducible refine Own2.far ?_ ?_ _ _) | (with_reducible refine Two.via (by with_reducible assumption) ?_ ?_) | (with_reducible refine Own2.via (by with_reducible assumption) ?_ ?_) | omega | (simp only [World.size_alloc, World.size_setCell, World.size_drew, size_drewN]; omega))), by (repeat' (first | (with_reducible exact Below.refl _ _) | (with_reducible assumption) | (with_reducible refine Below.alloc ?_ ?_ _) | (with_reducible refine Below.drew ?_) | (with_reducible refine below_drewN ?_ _) | (with_reducible refine Below.setCell ?_ ?_ _) | (with_reducible refine below_via (by with_reducible assumption) ?_ ?_) | omega | (simp only [World.size_alloc, World.size_setCell, World.size_drew, size_drewN]; omega) | (simp only [World.size_alloc, World.size_setCell, World.size_drew, size_drewN] at *; omega)))⟩
  case rest =>
    clear tb tz tv hB5 rb0 rb1 hv0 hv1 hv2 hcat z0 z1 ta0 ta1 fa0 fa1 la lg ltz
    obtain ⟨rfl, tx, hB⟩ := hcut
    have ⟨tx0, tx1, fx0, fx1, lx⟩ := tx
    have ec := fun w => eql_code w 3 3
    rcases H with ⟨hl, rfl, rfl, rfl⟩ | ⟨b, off, z, rfl, rfl, hcap, hz, hY, H⟩
    · have hl' : ((len : Int) == 16) = false := by simp; omega
      clear hl
      go_wp2
      go_ret
      exact ⟨rfl, by (repeat' (first | (with_reducible exact Below.refl _ _) | (with_reducible assumption) | (with_reducible refine Below.alloc ?_ ?_ _) | (with_reducible refine Below.drew ?_) | (with_reducible refine below_drewN ?_ _) | (with_reducible refine Below.setCell ?_ ?_ _) | (with_reducible refine below_via (by with_reducible assumption) ?_ ?_) | omega | (simp only [World.size_alloc, World.size_setCell, World.size_drew, size_drewN]; omega) | (simp only [World.size_alloc, World.size_setCell, World.size_drew, size_drewN] at *; omega)))⟩
    · have i1 : (16 : Int) ≤ (cap : Int) := by omega
      have i2 : (8 : Int) ≤ (cap : Int) := by omega
      have i3 : ¬ (cap = 8) := by omega
      have rn0 := fun w1 (h : Below w.heap.size w w1) => rnumberW b off 16 cap z hz w1 (by decide) (by decide) ((hY.below h hY.lt).less (by omega))
      have rn1 := fun w1 (h : Below w.heap.size w w1) => rnumberW b (off + 8) 8 (cap - 8) (fun i => z (8 + i)) (fun i => hz _) w1 (by decide) (by decide) ((hY.below h hY.lt).more 8 8 (by omega))
      clear hz hY
      generalize Ob.num z 8 = n0 at rn0 H
      generalize Ob.num (fun i => z (8 + i)) 8 = n1 at rn1 H
      rcases H with ⟨p0, p1, rfl, rfl, rfl⟩ | ⟨hn, rfl, rfl, rfl⟩
      · have j0 : (n0 : Int) < 1152921505151057923 := by simp only [Ob.P] at p0; omega
        have j1 : (n1 : Int) < 1152921505151057923 := by simp only [Ob.P] at p1; omega
        clear p0 p1
        go_upto_region 10 with ((go_at_call 24; first | (with_reducible refine Calls.mono (rn0 _ hB) ?_; rintro e w' ⟨rfl, rfl⟩) | (with_reducible refine Calls.mono (rn1 _ hB) ?_; rintro e w' ⟨rfl, rfl⟩) | (with_reducible refine Calls.mono (rn0 _ hB.drew) ?_; rintro e w' ⟨rfl, rfl⟩) | (with_reducible refine Calls.mono (rn1 _ hB.drew) ?_; rintro e w' ⟨rfl, rfl⟩)))
        go_region_held3 (fun w' => w'.cell? ⟨bx, 0, none⟩ = some (.int .u64 n0) ∧ w'.cell? ⟨bx, 1, none⟩ = some (.int .u64 n1)) (go_keep)
          ((go_at_call 24; first | (with_reducible refine Calls.mono (rn0 _ hB) ?_; rintro e w' ⟨rfl, rfl⟩) | (with_reducible refine Calls.mono (rn1 _ hB) ?_; rintro e w' ⟨rfl, rfl⟩) | (with_reducible refine Calls.mono (rn0 _ hB.drew) ?_; rintro e w' ⟨rfl, rfl⟩) | (with_reducible refine Calls.mono (rn1 _ hB.drew) ?_; rintro e w' ⟨rfl, rfl⟩)))
        go_wp2
        go_ret
        exact ⟨rfl, by (repeat' (first | (with_reducible exact Below.refl _ _) | (with_reducible assumption) | (with_reducible refine Below.alloc ?_ ?_ _) | (with_reducible refine Below.drew ?_) | (with_reducible refine below_drewN ?_ _) | (with_reducible refine Below.setCell ?_ ?_ _) | (with_reducible refine below_via (by with_reducible assumption) ?_ ?_) | omega | (simp only [World.size_alloc, World.size_setCell, World.size_drew, size_drewN]; omega) | (simp only [World.size_alloc, World.size_setCell, World.size_drew, size_drewN] at *; omega)))⟩
      · by_cases p0 : n0 < Ob.P
        · have p1 : ¬ n1 < Ob.P := fun h => hn ⟨p0, h⟩
          have j0 : (n0 : Int) < 1152921505151057923 := by simp only [Ob.P] at p0; omega
          have j1 : ¬ ((n1 : Int) < 1152921505151057923) := by simp only [Ob.P] at p1; omega
          have k1 : decide ((n1 : Int) < 1152921505151057923) = false := by simpa using j1
          clear j1
          clear p0 p1 hn
          go_wp2_with ((go_at_call 24; first | (with_reducible refine Calls.mono (rn0 _ hB) ?_; rintro e w' ⟨rfl, rfl⟩) | (with_reducible refine Calls.mono (rn1 _ hB) ?_; rintro e w' ⟨rfl, rfl⟩) | (with_reducible refine Calls.mono (rn0 _ hB.drew) ?_; rintro e w' ⟨rfl, rfl⟩) | (with_reducible refine Calls.mono (rn1 _ hB.drew) ?_; rintro e w' ⟨rfl, rfl⟩)))
          go_ret
          exact ⟨rfl, by (repeat' (first | (with_reducible exact Below.refl _ _) | (with_reducible assumption) | (with_reducible refine Below.alloc ?_ ?_ _) | (with_reducible refine Below.drew ?_) | (with_reducible refine below_drewN ?_ _) | (with_reducible refine Below.setCell ?_ ?_ _) | (with_reducible refine below_via (by with_reducible assumption) ?_ ?_) | omega | (simp only [World.size_alloc, World.size_setCell, World.size_drew, size_drewN]; omega) | (simp only [World.size_alloc, World.size_setCell, World.size_drew, size_drewN] at *; omega)))⟩
        · have j0 : ¬ ((n0 : Int) < 1152921505151057923) := by simp only [Ob.P] at p0; omega
          have k0 : decide ((n0 : Int) < 1152921505151057923) = false := by simpa using j0
          clear j0
          clear p0 hn
          go_wp2_with ((go_at_call 24; first | (with_reducible refine Calls.mono (rn0 _ hB) ?_; rintro e w' ⟨rfl, rfl⟩) | (with_reducible refine Calls.mono (rn1 _ hB) ?_; rintro e w' ⟨rfl, rfl⟩) | (with_reducible refine Calls.mono (rn0 _ hB.drew) ?_; rintro e w' ⟨rfl, rfl⟩) | (with_reducible refine Calls.mono (rn1 _ hB.drew) ?_; rintro e w' ⟨rfl, rfl⟩)))
          go_ret
          exact ⟨rfl, by (repeat' (first | (with_reducible exact Below.refl _ _) | (with_reducible assumption) | (with_reducible refine Below.alloc ?_ ?_ _) | (with_reducible refine Below.drew ?_) | (with_reducible refine below_drewN ?_ _) | (with_reducible refine Below.setCell ?_ ?_ _) | (with_reducible refine below_via (by with_reducible assumption) ?_ ?_) | omega | (simp only [World.size_alloc, World.size_setCell, World.size_drew, size_drewN]; omega) | (simp only [World.size_alloc, World.size_setCell, World.size_drew, size_drewN] at *; omega)))⟩
end Go.Proofs.Ytjfdgkhmjebbgaa
