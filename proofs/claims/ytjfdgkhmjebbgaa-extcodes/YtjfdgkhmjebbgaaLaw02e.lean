/-
  The walk of layer 2's statement on bytes, of elements that have none.
-/
import Derived.Test.YtjfdgkhmjebbgaaLaw02d
namespace Go.Proofs.Ytjfdgkhmjebbgaa
open Go.RowKit Go.Proofs
set_option linter.unusedVariables false
set_option linter.unusedSimpArgs false
attribute [local go_sem ↓] Go.wp_at_zero Go.wp_at_succ
attribute [local go_sem] equal_E

set_option maxHeartbeats 4000000 in
set_option maxRecDepth 8000 in
theorem codes_no (a0 a1 : Nat) (x0 x1 : Int) (fv : Value) (ba : Option Addr) (len cap : Nat) (w : World) (ha0 : a0 < 18446744073709551616) (ha1 : a1 < 18446744073709551616) (hr : ¬ (a0 < Ob.P ∧ a1 < Ob.P))
   (H : (len ≠ 16 ∧ fv = .iface 40 (.int .i64 3) ∧ x0 = 0 ∧ x1 = 0) ∨ (∃ (b off : Nat) (z : Nat → Nat), ba = some ⟨b, off, none⟩ ∧ len = 16 ∧ 16 ≤ cap ∧ (∀ i, z i < 256) ∧ Bys w b off 16 z ∧ ((Ob.num z 8 < Ob.P ∧ Ob.num (fun i => z (8 + i)) 8 < Ob.P ∧ fv = .nilIface ∧ x0 = (Ob.num z 8 : Nat) ∧ x1 = (Ob.num (fun i => z (8 + i)) 8 : Nat)) ∨ (¬ (Ob.num z 8 < Ob.P ∧ Ob.num (fun i => z (8 + i)) 8 < Ob.P) ∧ fv = .iface 40 (.int .i64 3) ∧ x0 = 0 ∧ x1 = 0))))
   (cr : ∀ w1, Below w.heap.size w w1 → Calls Try.prog 22 #[.slice ba len cap] w1 fun e w' => e = .returned (.tuple #[.agg #[.int .u64 x0, .int .u64 x1], fv]) ∧ Below w1.heap.size w1 w') :
    Calls Try.prog 7 #[.agg #[.int .u64 a0, .int .u64 a1], .slice ba len cap] w fun e w' => e = .returned (.bool true) ∧ Below w.heap.size w w' := by
  have cu := upW
  have cw := writeW_no a0 a1 hr
  have co := fun w => ofW a0 a1 w ha0 ha1
  obtain ⟨m0, hm0⟩ : ∃ m, m = (Ob.toE a0 a1).1.val := ⟨_, rfl⟩
  obtain ⟨m1, hm1⟩ : ∃ m, m = (Ob.toE a0 a1).2.val := ⟨_, rfl⟩
  have hm : ((a0 : Int) == (m0 : Int) && (a1 : Int) == (m1 : Int)) = false := by
    cases hb : ((a0 : Int) == (m0 : Int) && (a1 : Int) == (m1 : Int)) with
    | false => rfl
    | true =>
      exfalso
      simp at hb
      refine hr ⟨?_, ?_⟩
      · have h1 : a0 = (Ob.toE a0 a1).1.val := by rw [← hm0]; omega
        rw [h1]; exact Ob.F_lt _
      · have h1 : a1 = (Ob.toE a0 a1).2.val := by rw [← hm1]; omega
        rw [h1]; exact Ob.F_lt _
  rw [← hm0, ← hm1] at co
  clear hm0 hm1 hr
  have nc := fun w => neq_code w 1 1
  go_enter Try.func7, Try.ntmps7
  go_upto_region 4 with (first | (first | (go_at_call 9; first | (with_reducible refine (cu _).mono ?_; rintro e w_cu ⟨rfl, b_cu⟩; have z_cu := b_cu.size; (try simp only [World.size_alloc, World.size_setCell, World.size_drew, size_drewN] at z_cu); (try (have q1_cu_0 : w.heap.size < w_cu.heap.size := (by omega); have q2_cu_0 := Nat.le_of_lt q1_cu_0; have q3_cu_0 := Nat.ne_of_lt q1_cu_0; have q6_cu_0 := Nat.ne_of_gt q1_cu_0; have q4_cu_0_0 := (bcell b_cu).1 (w.heap.size) 0 (by first | omega | (simp only [World.size_alloc, World.size_setCell, World.size_drew, size_drewN]; omega)); have q5_cu_0_0 := (bcell b_cu).2 (w.heap.size) 0 (by first | omega | (simp only [World.size_alloc, World.size_setCell, World.size_drew, size_drewN]; omega)); have q4_cu_0_1 := (bcell b_cu).1 (w.heap.size) 1 (by first | omega | (simp only [World.size_alloc, World.size_setCell, World.size_drew, size_drewN]; omega)); have q5_cu_0_1 := (bcell b_cu).2 (w.heap.size) 1 (by first | omega | (simp only [World.size_alloc, World.size_setCell, World.size_drew, size_drewN]; omega)))))) | (go_at_call 21; first | (with_reducible refine (cw _).mono ?_; rintro e w_cw ⟨rfl, b_cw⟩; have z_cw := b_cw.size; (try simp only [World.size_alloc, World.size_setCell, World.size_drew, size_drewN] at z_cw); (try (have q1_cw_0 : w.heap.size < w_cw.heap.size := (by omega); have q2_cw_0 := Nat.le_of_lt q1_cw_0; have q3_cw_0 := Nat.ne_of_lt q1_cw_0; have q6_cw_0 := Nat.ne_of_gt q1_cw_0; have q4_cw_0_0 := (bcell b_cw).1 (w.heap.size) 0 (by first | omega | (simp only [World.size_alloc, World.size_setCell, World.size_drew, size_drewN]; omega)); have q5_cw_0_0 := (bcell b_cw).2 (w.heap.size) 0 (by first | omega | (simp only [World.size_alloc, World.size_setCell, World.size_drew, size_drewN]; omega)); have q4_cw_0_1 := (bcell b_cw).1 (w.heap.size) 1 (by first | omega | (simp only [World.size_alloc, World.size_setCell, World.size_drew, size_drewN]; omega)); have q5_cw_0_1 := (bcell b_cw).2 (w.heap.size) 1 (by first | omega | (simp only [World.size_alloc, World.size_setCell, World.size_drew, size_drewN]; omega))))))) | (go_at_call 22; refine (cr _ (by (repeat' (first | (with_reducible exact Below.refl _ _) | (with_reducible assumption) | (with_reducible refine Below.alloc ?_ ?_ _) | (with_reducible refine Below.drew ?_) | (with_reducible refine below_drewN ?_ _) | (with_reducible refine Below.setCell ?_ ?_ _) | (with_reducible refine below_via (by with_reducible assumption) ?_ ?_) | omega | (simp only [World.size_alloc, World.size_setCell, World.size_drew, size_drewN]; omega) | (simp only [World.size_alloc, World.size_setCell, World.size_drew, size_drewN] at *; omega))))).mono ?_; rintro e w_cr ⟨rfl, b_cr⟩))
  have z_cr := b_cr.size
  try simp only [World.size_alloc] at z_cr
  have ta : Two (w_cr.alloc (.cells #[.int .u64 x0, .int .u64 x1] 24)) w.heap.size (.int .u64 a0) (.int .u64 a1) := by (repeat' (first | (with_reducible assumption) | (with_reducible exact Two.own (by with_reducible assumption)) | (with_reducible refine Two.set ?_ _ _) | (with_reducible refine Own2.set ?_ _ _) | (with_reducible refine Two.drew ?_) | (with_reducible refine Two.drewN ?_ _) | (with_reducible refine Own2.drew ?_) | (with_reducible refine Own2.drewN ?_ _) | (with_reducible refine Two.new ?_; simp only [World.size_alloc, World.size_setCell, World.size_drew, size_drewN]; done) | (with_reducible refine Own2.new ?_; simp only [World.size_alloc, World.size_setCell, World.size_drew, size_drewN]; done) | (with_reducible refine Two.alloc ?_ _) | (with_reducible refine Own2.alloc ?_ _) | (with_reducible refine Two.far ?_ ?_ _ _) | (with_reducible refine Own2.far ?_ ?_ _ _) | (with_reducible refine Two.via (by with_reducible assumption) ?_ ?_) | (with_reducible refine Own2.via (by with_reducible assumption) ?_ ?_) | omega | (simp only [World.size_alloc, World.size_setCell, World.size_drew, size_drewN]; omega)))
  have tx : Two (w_cr.alloc (.cells #[.int .u64 x0, .int .u64 x1] 24)) w_cr.heap.size (.int .u64 x0) (.int .u64 x1) := by (repeat' (first | (with_reducible assumption) | (with_reducible exact Two.own (by with_reducible assumption)) | (with_reducible refine Two.set ?_ _ _) | (with_reducible refine Own2.set ?_ _ _) | (with_reducible refine Two.drew ?_) | (with_reducible refine Two.drewN ?_ _) | (with_reducible refine Own2.drew ?_) | (with_reducible refine Own2.drewN ?_ _) | (with_reducible refine Two.new ?_; simp only [World.size_alloc, World.size_setCell, World.size_drew, size_drewN]; done) | (with_reducible refine Own2.new ?_; simp only [World.size_alloc, World.size_setCell, World.size_drew, size_drewN]; done) | (with_reducible refine Two.alloc ?_ _) | (with_reducible refine Own2.alloc ?_ _) | (with_reducible refine Two.far ?_ ?_ _ _) | (with_reducible refine Own2.far ?_ ?_ _ _) | (with_reducible refine Two.via (by with_reducible assumption) ?_ ?_) | (with_reducible refine Own2.via (by with_reducible assumption) ?_ ?_) | omega | (simp only [World.size_alloc, World.size_setCell, World.size_drew, size_drewN]; omega)))
  have hB : Below w.heap.size w (w_cr.alloc (.cells #[.int .u64 x0, .int .u64 x1] 24)) := by (repeat' (first | (with_reducible exact Below.refl _ _) | (with_reducible assumption) | (with_reducible refine Below.alloc ?_ ?_ _) | (with_reducible refine Below.drew ?_) | (with_reducible refine below_drewN ?_ _) | (with_reducible refine Below.setCell ?_ ?_ _) | (with_reducible refine below_via (by with_reducible assumption) ?_ ?_) | omega | (simp only [World.size_alloc, World.size_setCell, World.size_drew, size_drewN]; omega) | (simp only [World.size_alloc, World.size_setCell, World.size_drew, size_drewN] at *; omega)))
  generalize w_cr.alloc (.cells #[.int .u64 x0, .int .u64 x1] 24) = w4 at ta tx hB ⊢
  generalize w_cr.heap.size = bx at tx ⊢
  ((try clear q4_cu_0_0); (try clear q5_cu_0_0); (try clear q4_cu_0_1); (try clear q5_cu_0_1); (try clear q2_cu_0); (try clear q3_cu_0); (try clear q6_cu_0); (try clear q1_cu_0))
  ((try clear q4_cw_0_0); (try clear q5_cw_0_0); (try clear q4_cw_0_1); (try clear q5_cw_0_1); (try clear q2_cw_0); (try clear q3_cw_0); (try clear q6_cw_0); (try clear q1_cw_0))
  clear cu cw cr b_cu b_cw b_cr z_cu z_cw z_cr
  have ⟨ta0, ta1, fa0, fa1, la⟩ := ta
  go_region_held3 (fun w' => w'.cell? ⟨w.heap.size, 0, none⟩ = some (.int .u64 a0) ∧ w'.cell? ⟨w.heap.size, 1, none⟩ = some (.int .u64 a1)) (go_keep)
    ((first | (go_at_call 14; first | (with_reducible refine (co _).mono ?_; rintro e w_co ⟨rfl, b_co⟩; have z_co := b_co.size; (try simp only [World.size_alloc, World.size_setCell, World.size_drew, size_drewN] at z_co); (try (have q1_co_0 : w.heap.size < w_co.heap.size := (by omega); have q2_co_0 := Nat.le_of_lt q1_co_0; have q3_co_0 := Nat.ne_of_lt q1_co_0; have q6_co_0 := Nat.ne_of_gt q1_co_0; have q4_co_0_0 := (bcell b_co).1 (w.heap.size) 0 (by first | omega | (simp only [World.size_alloc, World.size_setCell, World.size_drew, size_drewN]; omega)); have q5_co_0_0 := (bcell b_co).2 (w.heap.size) 0 (by first | omega | (simp only [World.size_alloc, World.size_setCell, World.size_drew, size_drewN]; omega)); have q4_co_0_1 := (bcell b_co).1 (w.heap.size) 1 (by first | omega | (simp only [World.size_alloc, World.size_setCell, World.size_drew, size_drewN]; omega)); have q5_co_0_1 := (bcell b_co).2 (w.heap.size) 1 (by first | omega | (simp only [World.size_alloc, World.size_setCell, World.size_drew, size_drewN]; omega))))))))
  have lx := tx.lt
  have tz : Two w_co bx (.int .u64 x0) (.int .u64 x1) := by (repeat' (first | (with_reducible assumption) | (with_reducible exact Two.own (by with_reducible assumption)) | (with_reducible refine Two.set ?_ _ _) | (with_reducible refine Own2.set ?_ _ _) | (with_reducible refine Two.drew ?_) | (with_reducible refine Two.drewN ?_ _) | (with_reducible refine Own2.drew ?_) | (with_reducible refine Own2.drewN ?_ _) | (with_reducible refine Two.new ?_; simp only [World.size_alloc, World.size_setCell, World.size_drew, size_drewN]; done) | (with_reducible refine Own2.new ?_; simp only [World.size_alloc, World.size_setCell, World.size_drew, size_drewN]; done) | (with_reducible refine Two.alloc ?_ _) | (with_reducible refine Own2.alloc ?_ _) | (with_reducible refine Two.far ?_ ?_ _ _) | (with_reducible refine Own2.far ?_ ?_ _ _) | (with_reducible refine Two.via (by with_reducible assumption) ?_ ?_) | (with_reducible refine Own2.via (by with_reducible assumption) ?_ ?_) | omega | (simp only [World.size_alloc, World.size_setCell, World.size_drew, size_drewN]; omega)))
  have hB5 : Below w.heap.size w w_co := by (repeat' (first | (with_reducible exact Below.refl _ _) | (with_reducible assumption) | (with_reducible refine Below.alloc ?_ ?_ _) | (with_reducible refine Below.drew ?_) | (with_reducible refine below_drewN ?_ _) | (with_reducible refine Below.setCell ?_ ?_ _) | (with_reducible refine below_via (by with_reducible assumption) ?_ ?_) | omega | (simp only [World.size_alloc, World.size_setCell, World.size_drew, size_drewN]; omega) | (simp only [World.size_alloc, World.size_setCell, World.size_drew, size_drewN] at *; omega)))
  ((try clear q4_co_0_0); (try clear q5_co_0_0); (try clear q4_co_0_1); (try clear q5_co_0_1); (try clear q2_co_0); (try clear q3_co_0); (try clear q6_co_0); (try clear q1_co_0))
  clear ta tx hB b_co z_co ta0 ta1 fa0 fa1 la co lx
  go_upto_region 9 with fail
  have tx := tz
  have hB := hB5
  clear tz hB5
  have ⟨tx0, tx1, fx0, fx1, lx⟩ := tx
  have ec := fun w => eql_code w 3 3
  rcases H with ⟨hl, rfl, rfl, rfl⟩ | ⟨b, off, z, rfl, rfl, hcap, hz, hY, H⟩
  · have hl' : ((len : Int) == 16) = false := by simp; omega
    clear hl
    go_wp2
    go_ret
    exact ⟨rfl, by (repeat' (first | (with_reducible exact Below.refl _ _) | (with_reducible assumption) | (with_reducible refine Below.alloc ?_ ?_ _) | (with_reducible refine Below.drew ?_) | (with_reducible refine below_drewN ?_ _) | (with_reducible refine Below.setCell ?_ ?_ _) | (with_reducible refine below_via (by with_reducible assumption) ?_ ?_) | omega | (simp only [World.size_alloc, World.size_setCell, World.size_drew, size_drewN]; omega) | (simp only [World.size_alloc, World.size_setCell, World.size_drew, size_drewN] at *; omega)))⟩
  · have i1 : (16 : Int) ≤ (cap : Int) := by omega
    have i2 : (8 : Int) ≤ (cap : Int) := by omega
    have i3 : ¬ (cap = 8) := by omega
    have rn0 := fun w1 (h : Below w.heap.size w w1) => rnumberW b off 16 cap z hz w1 (by decide) (by decide) ((hY.below h hY.lt).less (by omega))
    have rn1 := fun w1 (h : Below w.heap.size w w1) => rnumberW b (off + 8) 8 (cap - 8) (fun i => z (8 + i)) (fun i => hz _) w1 (by decide) (by decide) ((hY.below h hY.lt).more 8 8 (by omega))
    clear hz hY
    generalize Ob.num z 8 = n0 at rn0 H
    generalize Ob.num (fun i => z (8 + i)) 8 = n1 at rn1 H
    rcases H with ⟨p0, p1, rfl, rfl, rfl⟩ | ⟨hn, rfl, rfl, rfl⟩
    · have j0 : (n0 : Int) < 1152921505151057923 := by simp only [Ob.P] at p0; omega
      have j1 : (n1 : Int) < 1152921505151057923 := by simp only [Ob.P] at p1; omega
      clear p0 p1
      go_upto_region 10 with ((go_at_call 24; first | (with_reducible refine Calls.mono (rn0 _ hB) ?_; rintro e w' ⟨rfl, rfl⟩) | (with_reducible refine Calls.mono (rn1 _ hB) ?_; rintro e w' ⟨rfl, rfl⟩) | (with_reducible refine Calls.mono (rn0 _ hB.drew) ?_; rintro e w' ⟨rfl, rfl⟩) | (with_reducible refine Calls.mono (rn1 _ hB.drew) ?_; rintro e w' ⟨rfl, rfl⟩)))
      go_region_held3 (fun w' => w'.cell? ⟨bx, 0, none⟩ = some (.int .u64 n0) ∧ w'.cell? ⟨bx, 1, none⟩ = some (.int .u64 n1)) (go_keep)
        ((go_at_call 24; first | (with_reducible refine Calls.mono (rn0 _ hB) ?_; rintro e w' ⟨rfl, rfl⟩) | (with_reducible refine Calls.mono (rn1 _ hB) ?_; rintro e w' ⟨rfl, rfl⟩) | (with_reducible refine Calls.mono (rn0 _ hB.drew) ?_; rintro e w' ⟨rfl, rfl⟩) | (with_reducible refine Calls.mono (rn1 _ hB.drew) ?_; rintro e w' ⟨rfl, rfl⟩)))
      go_wp2
      go_ret
      exact ⟨rfl, by (repeat' (first | (with_reducible exact Below.refl _ _) | (with_reducible assumption) | (with_reducible refine Below.alloc ?_ ?_ _) | (with_reducible refine Below.drew ?_) | (with_reducible refine below_drewN ?_ _) | (with_reducible refine Below.setCell ?_ ?_ _) | (with_reducible refine below_via (by with_reducible assumption) ?_ ?_) | omega | (simp only [World.size_alloc, World.size_setCell, World.size_drew, size_drewN]; omega) | (simp only [World.size_alloc, World.size_setCell, World.size_drew, size_drewN] at *; omega)))⟩
    · by_cases p0 : n0 < Ob.P
      · have p1 : ¬ n1 < Ob.P := fun h => hn ⟨p0, h⟩
        have j0 : (n0 : Int) < 1152921505151057923 := by simp only [Ob.P] at p0; omega
        have j1 : ¬ ((n1 : Int) < 1152921505151057923) := by simp only [Ob.P] at p1; omega
        have k1 : decide ((n1 : Int) < 1152921505151057923) = false := by simpa using j1
        clear j1
        clear p0 p1 hn
        go_wp2_with ((go_at_call 24; first | (with_reducible refine Calls.mono (rn0 _ hB) ?_; rintro e w' ⟨rfl, rfl⟩) | (with_reducible refine Calls.mono (rn1 _ hB) ?_; rintro e w' ⟨rfl, rfl⟩) | (with_reducible refine Calls.mono (rn0 _ hB.drew) ?_; rintro e w' ⟨rfl, rfl⟩) | (with_reducible refine Calls.mono (rn1 _ hB.drew) ?_; rintro e w' ⟨rfl, rfl⟩)))
        go_ret
        exact ⟨rfl, by (repeat' (first | (with_reducible exact Below.refl _ _) | (with_reducible assumption) | (with_reducible refine Below.alloc ?_ ?_ _) | (with_reducible refine Below.drew ?_) | (with_reducible refine below_drewN ?_ _) | (with_reducible refine Below.setCell ?_ ?_ _) | (with_reducible refine below_via (by with_reducible assumption) ?_ ?_) | omega | (simp only [World.size_alloc, World.size_setCell, World.size_drew, size_drewN]; omega) | (simp only [World.size_alloc, World.size_setCell, World.size_drew, size_drewN] at *; omega)))⟩
      · have j0 : ¬ ((n0 : Int) < 1152921505151057923) := by simp only [Ob.P] at p0; omega
        have k0 : decide ((n0 : Int) < 1152921505151057923) = false := by simpa using j0
        clear j0
        clear p0 hn
        go_wp2_with ((go_at_call 24; first | (with_reducible refine Calls.mono (rn0 _ hB) ?_; rintro e w' ⟨rfl, rfl⟩) | (with_reducible refine Calls.mono (rn1 _ hB) ?_; rintro e w' ⟨rfl, rfl⟩) | (with_reducible refine Calls.mono (rn0 _ hB.drew) ?_; rintro e w' ⟨rfl, rfl⟩) | (with_reducible refine Calls.mono (rn1 _ hB.drew) ?_; rintro e w' ⟨rfl, rfl⟩)))
        go_ret
        exact ⟨rfl, by (repeat' (first | (with_reducible exact Below.refl _ _) | (with_reducible assumption) | (with_reducible refine Below.alloc ?_ ?_ _) | (with_reducible refine Below.drew ?_) | (with_reducible refine below_drewN ?_ _) | (with_reducible refine Below.setCell ?_ ?_ _) | (with_reducible refine below_via (by with_reducible assumption) ?_ ?_) | omega | (simp only [World.size_alloc, World.size_setCell, World.size_drew, size_drewN]; omega) | (simp only [World.size_alloc, World.size_setCell, World.size_drew, size_drewN] at *; omega)))⟩
end Go.Proofs.Ytjfdgkhmjebbgaa
