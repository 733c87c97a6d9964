/-
  The walks of what reads points: package curve's, and the document's own.
-/
import Derived.Test.YtcgbemnmebgmjabCurveB
namespace Go.Proofs.Ytcgbemnmebgmjab
open Go.RowKit Go.Proofs
set_option linter.unusedVariables false
set_option linter.unusedSimpArgs false
attribute [local go_sem ↓] Go.wp_at_zero Go.wp_at_succ

/-- The numbers that 17 bytes tell. -/
def rdX (z : Nat → Nat) : Nat := Ob.num (fun i => z (1 + i)) 8
def rdY (z : Nat → Nat) : Nat := Ob.num (fun i => z (9 + i)) 8
theorem rdX_word {z : Nat → Nat} (hz : ∀ i, z i < 256) : rdX z < 18446744073709551616 := Ob.num_word _ fun i => hz _
theorem rdY_word {z : Nat → Nat} (hz : ∀ i, z i < 256) : rdY z < 18446744073709551616 := Ob.num_word _ fun i => hz _

set_option maxHeartbeats 2000000 in
theorem creadPoint_good (b off cap : Nat) (n0 n1 : Nat) (w : World) (hcap : 16 ≤ cap)
    (c1 : ∀ w1, Below w.heap.size w w1 → Calls Try.prog 22 #[.slice (some ⟨b, off, none⟩) 8 cap] w1 fun e w' => e = .returned (.int .u64 n0) ∧ w1 = w')
    (c2 : ∀ w1, Below w.heap.size w w1 → Calls Try.prog 22 #[.slice (some ⟨b, off + 8, none⟩) 8 (cap - 8)] w1 fun e w' => e = .returned (.int .u64 n1) ∧ w1 = w')
    (c3 : ∀ w, Calls Try.prog 9 #[.agg #[.bool false, .int .u64 n0, .int .u64 n1]] w fun e w' => e = .returned (.bool true) ∧ Below w.heap.size w w') :
    Calls Try.prog 13 #[.slice (some ⟨b, off, none⟩) 16 cap] w fun e w' => e = .returned (.tuple #[.agg #[.bool false, .int .u64 n0, .int .u64 n1], .nilIface]) ∧ Below w.heap.size w w' := by
  have i1 : (16 : Int) ≤ (cap : Int) := by omega
  have i2 : (8 : Int) ≤ (cap : Int) := by omega
  have i3 : ¬ (cap = 8) := by omega
  go_enter Try.func13, Try.ntmps13
  go_wp2
  go_region_held3 (fun w' => Below w.heap.size w w') ((repeat' (first | (with_reducible exact Below.refl _ _) | (with_reducible assumption) | (with_reducible refine Below.alloc ?_ ?_ _) | (with_reducible refine Below.drew ?_) | (with_reducible refine below_drewN ?_ _) | (with_reducible refine Below.setCell ?_ ?_ _) | (with_reducible refine below_via (by with_reducible assumption) ?_ ?_) | omega | (simp only [World.size_alloc, World.size_setCell, World.size_drew, size_drewN]; omega) | (simp only [World.size_alloc, World.size_setCell, World.size_drew, size_drewN] at *; omega))))
    ((go_at_call 22; first | (with_reducible refine (c1 _ (by first | assumption | (repeat' (first | (with_reducible exact Below.refl _ _) | (with_reducible assumption) | (with_reducible refine Below.alloc ?_ ?_ _) | (with_reducible refine Below.drew ?_) | (with_reducible refine below_drewN ?_ _) | (with_reducible refine Below.setCell ?_ ?_ _) | (with_reducible refine below_via (by with_reducible assumption) ?_ ?_) | omega | (simp only [World.size_alloc, World.size_setCell, World.size_drew, size_drewN]; omega) | (simp only [World.size_alloc, World.size_setCell, World.size_drew, size_drewN] at *; omega))))).mono ?_; rintro e w' ⟨rfl, rfl⟩) | (with_reducible refine (c2 _ (by first | assumption | (repeat' (first | (with_reducible exact Below.refl _ _) | (with_reducible assumption) | (with_reducible refine Below.alloc ?_ ?_ _) | (with_reducible refine Below.drew ?_) | (with_reducible refine below_drewN ?_ _) | (with_reducible refine Below.setCell ?_ ?_ _) | (with_reducible refine below_via (by with_reducible assumption) ?_ ?_) | omega | (simp only [World.size_alloc, World.size_setCell, World.size_drew, size_drewN]; omega) | (simp only [World.size_alloc, World.size_setCell, World.size_drew, size_drewN] at *; omega))))).mono ?_; rintro e w' ⟨rfl, rfl⟩)))
  all_goals
    clear c1 c2
    go_wp2_with (first | (go_at_call 9; first | (with_reducible refine (c3 _).mono ?_; rintro e w_c3 ⟨rfl, b_c3⟩; have z_c3 := b_c3.size; (try simp only [World.size_alloc, World.size_setCell, World.size_drew, size_drewN] at z_c3); (try (have q1_c3_0 : w.heap.size < w_c3.heap.size := (by omega); have q2_c3_0 := Nat.le_of_lt q1_c3_0; have q3_c3_0 := Nat.ne_of_lt q1_c3_0; have q6_c3_0 := Nat.ne_of_gt q1_c3_0; have q4_c3_0_0 := (bcell b_c3).1 (w.heap.size) 0 (by first | omega | (simp only [World.size_alloc, World.size_setCell, World.size_drew, size_drewN]; omega)); have q5_c3_0_0 := (bcell b_c3).2 (w.heap.size) 0 (by first | omega | (simp only [World.size_alloc, World.size_setCell, World.size_drew, size_drewN]; omega)); have q4_c3_0_1 := (bcell b_c3).1 (w.heap.size) 1 (by first | omega | (simp only [World.size_alloc, World.size_setCell, World.size_drew, size_drewN]; omega)); have q5_c3_0_1 := (bcell b_c3).2 (w.heap.size) 1 (by first | omega | (simp only [World.size_alloc, World.size_setCell, World.size_drew, size_drewN]; omega)); have q4_c3_0_2 := (bcell b_c3).1 (w.heap.size) 2 (by first | omega | (simp only [World.size_alloc, World.size_setCell, World.size_drew, size_drewN]; omega)); have q5_c3_0_2 := (bcell b_c3).2 (w.heap.size) 2 (by first | omega | (simp only [World.size_alloc, World.size_setCell, World.size_drew, size_drewN]; omega)))); (try (have q1_c3_1 : w.heap.size + 1 < w_c3.heap.size := (by omega); have q2_c3_1 := Nat.le_of_lt q1_c3_1; have q3_c3_1 := Nat.ne_of_lt q1_c3_1; have q6_c3_1 := Nat.ne_of_gt q1_c3_1; have q4_c3_1_0 := (bcell b_c3).1 (w.heap.size + 1) 0 (by first | omega | (simp only [World.size_alloc, World.size_setCell, World.size_drew, size_drewN]; omega)); have q5_c3_1_0 := (bcell b_c3).2 (w.heap.size + 1) 0 (by first | omega | (simp only [World.size_alloc, World.size_setCell, World.size_drew, size_drewN]; omega)); have q4_c3_1_1 := (bcell b_c3).1 (w.heap.size + 1) 1 (by first | omega | (simp only [World.size_alloc, World.size_setCell, World.size_drew, size_drewN]; omega)); have q5_c3_1_1 := (bcell b_c3).2 (w.heap.size + 1) 1 (by first | omega | (simp only [World.size_alloc, World.size_setCell, World.size_drew, size_drewN]; omega)); have q4_c3_1_2 := (bcell b_c3).1 (w.heap.size + 1) 2 (by first | omega | (simp only [World.size_alloc, World.size_setCell, World.size_drew, size_drewN]; omega)); have q5_c3_1_2 := (bcell b_c3).2 (w.heap.size + 1) 2 (by first | omega | (simp only [World.size_alloc, World.size_setCell, World.size_drew, size_drewN]; omega)))))))
    exact bodyPost_ret (v := .tuple #[.agg #[.bool false, .int .u64 n0, .int .u64 n1], .nilIface]) (by simp [results, Try.results13, go_sem, *]) rfl ⟨rfl, by (repeat' (first | (with_reducible exact Below.refl _ _) | (with_reducible assumption) | (with_reducible refine Below.alloc ?_ ?_ _) | (with_reducible refine Below.drew ?_) | (with_reducible refine below_drewN ?_ _) | (with_reducible refine Below.setCell ?_ ?_ _) | (with_reducible refine below_via (by with_reducible assumption) ?_ ?_) | omega | (simp only [World.size_alloc, World.size_setCell, World.size_drew, size_drewN]; omega) | (simp only [World.size_alloc, World.size_setCell, World.size_drew, size_drewN] at *; omega)))⟩
set_option maxHeartbeats 2000000 in
theorem creadPoint_bad (b off cap : Nat) (n0 n1 : Nat) (w : World) (hcap : 16 ≤ cap)
    (c1 : ∀ w1, Below w.heap.size w w1 → Calls Try.prog 22 #[.slice (some ⟨b, off, none⟩) 8 cap] w1 fun e w' => e = .returned (.int .u64 n0) ∧ w1 = w')
    (c2 : ∀ w1, Below w.heap.size w w1 → Calls Try.prog 22 #[.slice (some ⟨b, off + 8, none⟩) 8 (cap - 8)] w1 fun e w' => e = .returned (.int .u64 n1) ∧ w1 = w')
    (c3 : ∀ w, Calls Try.prog 9 #[.agg #[.bool false, .int .u64 n0, .int .u64 n1]] w fun e w' => e = .returned (.bool false) ∧ Below w.heap.size w w') :
    Calls Try.prog 13 #[.slice (some ⟨b, off, none⟩) 16 cap] w fun e w' => e = .returned (.tuple #[.agg #[.bool false, .int .u64 0, .int .u64 0], .iface 40 (.int .i64 3)]) ∧ Below w.heap.size w w' := by
  have i1 : (16 : Int) ≤ (cap : Int) := by omega
  have i2 : (8 : Int) ≤ (cap : Int) := by omega
  have i3 : ¬ (cap = 8) := by omega
  go_enter Try.func13, Try.ntmps13
  go_wp2
  go_region_held3 (fun w' => Below w.heap.size w w') ((repeat' (first | (with_reducible exact Below.refl _ _) | (with_reducible assumption) | (with_reducible refine Below.alloc ?_ ?_ _) | (with_reducible refine Below.drew ?_) | (with_reducible refine below_drewN ?_ _) | (with_reducible refine Below.setCell ?_ ?_ _) | (with_reducible refine below_via (by with_reducible assumption) ?_ ?_) | omega | (simp only [World.size_alloc, World.size_setCell, World.size_drew, size_drewN]; omega) | (simp only [World.size_alloc, World.size_setCell, World.size_drew, size_drewN] at *; omega))))
    ((go_at_call 22; first | (with_reducible refine (c1 _ (by first | assumption | (repeat' (first | (with_reducible exact Below.refl _ _) | (with_reducible assumption) | (with_reducible refine Below.alloc ?_ ?_ _) | (with_reducible refine Below.drew ?_) | (with_reducible refine below_drewN ?_ _) | (with_reducible refine Below.setCell ?_ ?_ _) | (with_reducible refine below_via (by with_reducible assumption) ?_ ?_) | omega | (simp only [World.size_alloc, World.size_setCell, World.size_drew, size_drewN]; omega) | (simp only [World.size_alloc, World.size_setCell, World.size_drew, size_drewN] at *; omega))))).mono ?_; rintro e w' ⟨rfl, rfl⟩) | (with_reducible refine (c2 _ (by first | assumption | (repeat' (first | (with_reducible exact Below.refl _ _) | (with_reducible assumption) | (with_reducible refine Below.alloc ?_ ?_ _) | (with_reducible refine Below.drew ?_) | (with_reducible refine below_drewN ?_ _) | (with_reducible refine Below.setCell ?_ ?_ _) | (with_reducible refine below_via (by with_reducible assumption) ?_ ?_) | omega | (simp only [World.size_alloc, World.size_setCell, World.size_drew, size_drewN]; omega) | (simp only [World.size_alloc, World.size_setCell, World.size_drew, size_drewN] at *; omega))))).mono ?_; rintro e w' ⟨rfl, rfl⟩)))
  all_goals
    clear c1 c2
    go_wp2_with (first | (go_at_call 9; first | (with_reducible refine (c3 _).mono ?_; rintro e w_c3 ⟨rfl, b_c3⟩; have z_c3 := b_c3.size; (try simp only [World.size_alloc, World.size_setCell, World.size_drew, size_drewN] at z_c3); (try (have q1_c3_0 : w.heap.size < w_c3.heap.size := (by omega); have q2_c3_0 := Nat.le_of_lt q1_c3_0; have q3_c3_0 := Nat.ne_of_lt q1_c3_0; have q6_c3_0 := Nat.ne_of_gt q1_c3_0; have q4_c3_0_0 := (bcell b_c3).1 (w.heap.size) 0 (by first | omega | (simp only [World.size_alloc, World.size_setCell, World.size_drew, size_drewN]; omega)); have q5_c3_0_0 := (bcell b_c3).2 (w.heap.size) 0 (by first | omega | (simp only [World.size_alloc, World.size_setCell, World.size_drew, size_drewN]; omega)); have q4_c3_0_1 := (bcell b_c3).1 (w.heap.size) 1 (by first | omega | (simp only [World.size_alloc, World.size_setCell, World.size_drew, size_drewN]; omega)); have q5_c3_0_1 := (bcell b_c3).2 (w.heap.size) 1 (by first | omega | (simp only [World.size_alloc, World.size_setCell, World.size_drew, size_drewN]; omega)); have q4_c3_0_2 := (bcell b_c3).1 (w.heap.size) 2 (by first | omega | (simp only [World.size_alloc, World.size_setCell, World.size_drew, size_drewN]; omega)); have q5_c3_0_2 := (bcell b_c3).2 (w.heap.size) 2 (by first | omega | (simp only [World.size_alloc, World.size_setCell, World.size_drew, size_drewN]; omega)))); (try (have q1_c3_1 : w.heap.size + 1 < w_c3.heap.size := (by omega); have q2_c3_1 := Nat.le_of_lt q1_c3_1; have q3_c3_1 := Nat.ne_of_lt q1_c3_1; have q6_c3_1 := Nat.ne_of_gt q1_c3_1; have q4_c3_1_0 := (bcell b_c3).1 (w.heap.size + 1) 0 (by first | omega | (simp only [World.size_alloc, World.size_setCell, World.size_drew, size_drewN]; omega)); have q5_c3_1_0 := (bcell b_c3).2 (w.heap.size + 1) 0 (by first | omega | (simp only [World.size_alloc, World.size_setCell, World.size_drew, size_drewN]; omega)); have q4_c3_1_1 := (bcell b_c3).1 (w.heap.size + 1) 1 (by first | omega | (simp only [World.size_alloc, World.size_setCell, World.size_drew, size_drewN]; omega)); have q5_c3_1_1 := (bcell b_c3).2 (w.heap.size + 1) 1 (by first | omega | (simp only [World.size_alloc, World.size_setCell, World.size_drew, size_drewN]; omega)); have q4_c3_1_2 := (bcell b_c3).1 (w.heap.size + 1) 2 (by first | omega | (simp only [World.size_alloc, World.size_setCell, World.size_drew, size_drewN]; omega)); have q5_c3_1_2 := (bcell b_c3).2 (w.heap.size + 1) 2 (by first | omega | (simp only [World.size_alloc, World.size_setCell, World.size_drew, size_drewN]; omega)))))))
    exact bodyPost_ret (v := .tuple #[.agg #[.bool false, .int .u64 0, .int .u64 0], .iface 40 (.int .i64 3)]) (by simp [results, Try.results13, go_sem, *]) rfl ⟨rfl, by (repeat' (first | (with_reducible exact Below.refl _ _) | (with_reducible assumption) | (with_reducible refine Below.alloc ?_ ?_ _) | (with_reducible refine Below.drew ?_) | (with_reducible refine below_drewN ?_ _) | (with_reducible refine Below.setCell ?_ ?_ _) | (with_reducible refine below_via (by with_reducible assumption) ?_ ?_) | omega | (simp only [World.size_alloc, World.size_setCell, World.size_drew, size_drewN]; omega) | (simp only [World.size_alloc, World.size_setCell, World.size_drew, size_drewN] at *; omega)))⟩

/-- What Read tells of a point, or that there is none. -/
def rdV : Option Ob.Cp → Value
  | some a => .tuple #[ptV a, .nilIface]
  | none => .tuple #[.agg #[.bool false, .int .u64 0, .int .u64 0], .iface 40 (.int .i64 3)]
theorem isPt_false {x y : Nat} (h : isPt false x y = true) : x = (Ob.toF x).val ∧ y = (Ob.toF y).val := by
  simp [isPt] at h
  exact ⟨(Nat.mod_eq_of_lt h.1.1).symm, (Nat.mod_eq_of_lt h.1.2).symm⟩
/-- The point that 17 bytes with a 1 ahead tell. -/
def rdPt (z : Nat → Nat) : Option Ob.Cp := if isPt false (rdX z) (rdY z) = true then some (some (Ob.toF (rdX z), Ob.toF (rdY z))) else none
theorem creadPointW (b off cap : Nat) (z : Nat → Nat) (hz : ∀ i, z i < 256) (w : World) (hcap : 16 ≤ cap) (hB : Bys w b (off + 1) 16 (fun i => z (1 + i))) :
    Calls Try.prog 13 #[.slice (some ⟨b, off + 1, none⟩) 16 cap] w fun e w' => e = .returned (rdV (rdPt z)) ∧ Below w.heap.size w w' := by
  have c1 := fun w1 (h : Below w.heap.size w w1) => numberW b (off + 1) cap (fun i => z (1 + i)) (fun i => hz _) w1 ((hB.below h hB.lt).less (by omega))
  have c2 := fun w1 (h : Below w.heap.size w w1) => numberW b (off + 1 + 8) (cap - 8) (fun i => z (1 + (8 + i))) (fun i => hz _) w1 ((hB.below h hB.lt).more 8 8 (by omega))
  have e2 : Ob.num (fun i => z (1 + (8 + i))) 8 = rdY z := Ob.num_congr _ _ _ fun i _ => by
    have : 1 + (8 + i) = 9 + i := by omega
    rw [this]
  have e1 : Ob.num (fun i => z (1 + i)) 8 = rdX z := rfl
  rw [e1] at c1
  rw [e2] at c2
  have c3 := cisW false (rdX z) (rdY z) (rdX_word hz) (rdY_word hz)
  unfold rdPt
  cases h : isPt false (rdX z) (rdY z) with
  | true =>
    rw [h] at c3
    have e := isPt_false h
    have := creadPoint_good b (off + 1) cap _ _ w hcap c1 c2 c3
    rw [e.1, e.2] at this
    exact this
  | false =>
    rw [h] at c3
    exact creadPoint_bad b (off + 1) cap _ _ w hcap c1 c2 c3

set_option maxHeartbeats 1000000 in
theorem cread_len (a : Option Addr) (len cap : Nat) (h1 : len ≠ 1) (h2 : len ≠ 17) (w : World) :
    Calls Try.prog 5 #[.slice a len cap] w fun e w' => e = .returned (rdV none) ∧ Below w.heap.size w w' := by
  have i1 : ((len : Int) == 1) = false := by simp; omega
  have i2 : ((len : Int) == 17) = false := by simp; omega
  clear h1 h2
  go_enter Try.func5, Try.ntmps5
  go_wp2
  exact bodyPost_ret (v := .tuple #[.agg #[.bool false, .int .u64 0, .int .u64 0], .iface 40 (.int .i64 3)]) (by simp [results, Try.results5, go_sem]) rfl ⟨rfl, by (repeat' (first | (with_reducible exact Below.refl _ _) | (with_reducible assumption) | (with_reducible refine Below.alloc ?_ ?_ _) | (with_reducible refine Below.drew ?_) | (with_reducible refine below_drewN ?_ _) | (with_reducible refine Below.setCell ?_ ?_ _) | (with_reducible refine below_via (by with_reducible assumption) ?_ ?_) | omega | (simp only [World.size_alloc, World.size_setCell, World.size_drew, size_drewN]; omega) | (simp only [World.size_alloc, World.size_setCell, World.size_drew, size_drewN] at *; omega)))⟩
set_option maxHeartbeats 1000000 in
theorem cread_one (b off cap z0 : Nat) (w : World) (hb : b < w.heap.size) (hc : w.cell? ⟨b, off, none⟩ = some (.int .u8 z0)) :
    Calls Try.prog 5 #[.slice (some ⟨b, off, none⟩) 1 cap] w fun e w' => e = .returned (rdV (if z0 = 0 then some none else none)) ∧ Below w.heap.size w w' := by
  have q1 := Nat.ne_of_lt hb
  by_cases h : z0 = 0
  · subst h
    rw [if_pos rfl]
    go_enter Try.func5, Try.ntmps5
    go_wp2
    exact bodyPost_ret (v := .tuple #[.agg #[.bool true, .int .u64 0, .int .u64 0], .nilIface]) (by simp [results, Try.results5, go_sem]) rfl ⟨rfl, by (repeat' (first | (with_reducible exact Below.refl _ _) | (with_reducible assumption) | (with_reducible refine Below.alloc ?_ ?_ _) | (with_reducible refine Below.drew ?_) | (with_reducible refine below_drewN ?_ _) | (with_reducible refine Below.setCell ?_ ?_ _) | (with_reducible refine below_via (by with_reducible assumption) ?_ ?_) | omega | (simp only [World.size_alloc, World.size_setCell, World.size_drew, size_drewN]; omega) | (simp only [World.size_alloc, World.size_setCell, World.size_drew, size_drewN] at *; omega)))⟩
  · rw [if_neg h]
    have i1 : ((z0 : Int) == 0) = false := by simp; omega
    clear h
    go_enter Try.func5, Try.ntmps5
    go_wp2
    exact bodyPost_ret (v := .tuple #[.agg #[.bool false, .int .u64 0, .int .u64 0], .iface 40 (.int .i64 3)]) (by simp [results, Try.results5, go_sem]) rfl ⟨rfl, by (repeat' (first | (with_reducible exact Below.refl _ _) | (with_reducible assumption) | (with_reducible refine Below.alloc ?_ ?_ _) | (with_reducible refine Below.drew ?_) | (with_reducible refine below_drewN ?_ _) | (with_reducible refine Below.setCell ?_ ?_ _) | (with_reducible refine below_via (by with_reducible assumption) ?_ ?_) | omega | (simp only [World.size_alloc, World.size_setCell, World.size_drew, size_drewN]; omega) | (simp only [World.size_alloc, World.size_setCell, World.size_drew, size_drewN] at *; omega)))⟩
set_option maxHeartbeats 1000000 in
theorem cread_form (b off cap z0 : Nat) (w : World) (hb : b < w.heap.size) (hc : w.cell? ⟨b, off, none⟩ = some (.int .u8 z0)) (h : z0 ≠ 1) :
    Calls Try.prog 5 #[.slice (some ⟨b, off, none⟩) 17 cap] w fun e w' => e = .returned (rdV none) ∧ Below w.heap.size w w' := by
  have q1 := Nat.ne_of_lt hb
  have i1 : ((z0 : Int) == 1) = false := by simp; omega
  clear h
  go_enter Try.func5, Try.ntmps5
  go_wp2
  exact bodyPost_ret (v := .tuple #[.agg #[.bool false, .int .u64 0, .int .u64 0], .iface 40 (.int .i64 3)]) (by simp [results, Try.results5, go_sem]) rfl ⟨rfl, by (repeat' (first | (with_reducible exact Below.refl _ _) | (with_reducible assumption) | (with_reducible refine Below.alloc ?_ ?_ _) | (with_reducible refine Below.drew ?_) | (with_reducible refine below_drewN ?_ _) | (with_reducible refine Below.setCell ?_ ?_ _) | (with_reducible refine below_via (by with_reducible assumption) ?_ ?_) | omega | (simp only [World.size_alloc, World.size_setCell, World.size_drew, size_drewN]; omega) | (simp only [World.size_alloc, World.size_setCell, World.size_drew, size_drewN] at *; omega)))⟩
set_option maxHeartbeats 1000000 in
theorem cread_point (b off cap : Nat) (i : Bool) (x y : Int) (ev : Value) (w : World) (hcap : 17 ≤ cap) (hb : b < w.heap.size) (hc : w.cell? ⟨b, off, none⟩ = some (.int .u8 (1 : Nat)))
    (c1 : ∀ w1, Below w.heap.size w w1 → Calls Try.prog 13 #[.slice (some ⟨b, off + 1, none⟩) 16 (cap - 1)] w1 fun e w' => e = .returned (.tuple #[.agg #[.bool i, .int .u64 x, .int .u64 y], ev]) ∧ Below w1.heap.size w1 w') :
    Calls Try.prog 5 #[.slice (some ⟨b, off, none⟩) 17 cap] w fun e w' => e = .returned (.tuple #[.agg #[.bool i, .int .u64 x, .int .u64 y], ev]) ∧ Below w.heap.size w w' := by
  have q1 := Nat.ne_of_lt hb
  have i1 : (17 : Int) ≤ (cap : Int) := by omega
  have i2 : (1 : Int) ≤ (cap : Int) := by omega
  have i3 : ¬ (cap = 1) := by omega
  go_enter Try.func5, Try.ntmps5
  go_wp2_with (go_at_call 13; (with_reducible refine (c1 _ (by (repeat' (first | (with_reducible exact Below.refl _ _) | (with_reducible assumption) | (with_reducible refine Below.alloc ?_ ?_ _) | (with_reducible refine Below.drew ?_) | (with_reducible refine below_drewN ?_ _) | (with_reducible refine Below.setCell ?_ ?_ _) | (with_reducible refine below_via (by with_reducible assumption) ?_ ?_) | omega | (simp only [World.size_alloc, World.size_setCell, World.size_drew, size_drewN]; omega) | (simp only [World.size_alloc, World.size_setCell, World.size_drew, size_drewN] at *; omega))))).mono ?_); rintro e w_c1 ⟨rfl, b_c1⟩; have z_c1 := b_c1.size; (try simp only [World.size_alloc] at z_c1); have q4 := (bcell b_c1).1 w.heap.size 0 (by simp); have q5 := (bcell b_c1).1 w.heap.size 1 (by simp); have q6 := (bcell b_c1).1 w.heap.size 2 (by simp); have q7 := (bcell b_c1).2 w.heap.size 0 (by simp); have q8 := (bcell b_c1).2 w.heap.size 1 (by simp); have q9 := (bcell b_c1).2 w.heap.size 2 (by simp))
  exact bodyPost_ret (v := .tuple #[.agg #[.bool i, .int .u64 x, .int .u64 y], ev]) (by simp [results, Try.results5, go_sem, *]) rfl ⟨rfl, by (repeat' (first | (with_reducible exact Below.refl _ _) | (with_reducible assumption) | (with_reducible refine Below.alloc ?_ ?_ _) | (with_reducible refine Below.drew ?_) | (with_reducible refine below_drewN ?_ _) | (with_reducible refine Below.setCell ?_ ?_ _) | (with_reducible refine below_via (by with_reducible assumption) ?_ ?_) | omega | (simp only [World.size_alloc, World.size_setCell, World.size_drew, size_drewN]; omega) | (simp only [World.size_alloc, World.size_setCell, World.size_drew, size_drewN] at *; omega)))⟩

/-- What bytes tell. -/
def rdOf (len : Nat) (z : Nat → Nat) : Option Ob.Cp :=
  if len = 1 then (if z 0 = 0 then some none else none) else if len = 17 then (if z 0 = 1 then rdPt z else none) else none
theorem creadW (b off len cap : Nat) (z : Nat → Nat) (hz : ∀ i, z i < 256) (hl : 0 < len) (hcap : len ≤ cap) (w : World) (hB : Bys w b off len z) :
    Calls Try.prog 5 #[.slice (some ⟨b, off, none⟩) len cap] w fun e w' => e = .returned (rdV (rdOf len z)) ∧ Below w.heap.size w w' := by
  have hc := hB.at_ 0 hl
  rw [Nat.add_zero] at hc
  unfold rdOf
  by_cases h1 : len = 1
  · subst h1
    rw [if_pos rfl]
    exact cread_one b off cap (z 0) w hB.lt hc
  · rw [if_neg h1]
    by_cases h2 : len = 17
    · subst h2
      rw [if_pos rfl]
      by_cases h3 : z 0 = 1
      · rw [if_pos h3]
        rw [h3] at hc
        have c1 := fun w1 (h : Below w.heap.size w w1) => creadPointW b off (cap - 1) z hz w1 (by omega) ((hB.below h hB.lt).more 1 16 (by omega))
        cases hr : rdPt z with
        | none =>
          rw [hr] at c1
          exact cread_point b off cap _ _ _ _ w hcap hB.lt hc c1
        | some a =>
          rw [hr] at c1
          exact cread_point b off cap _ _ _ _ w hcap hB.lt hc c1
      · rw [if_neg h3]
        exact cread_form b off cap (z 0) w hB.lt hc h3
    · rw [if_neg h2]
      exact cread_len _ len cap h1 h2 w
end Go.Proofs.Ytcgbemnmebgmjab
