/-
  The walk of the document's own answer to what bytes tell, and what the two tell of one another.
-/
import Derived.Test.YtcgbemnmebgmjaaCurveR
namespace Go.Proofs.Ytcgbemnmebgmjaa
open Go.RowKit Go.Proofs
set_option linter.unusedVariables false
set_option linter.unusedSimpArgs false
attribute [local go_sem ↓] Go.wp_at_zero Go.wp_at_succ

/-- The same, with a bool. -/
def rrV : Option Ob.Cp → Value
  | some a => .tuple #[ptV a, .bool true]
  | none => .tuple #[.agg #[.bool false, .int .u64 0, .int .u64 0], .bool false]
set_option maxHeartbeats 1000000 in
theorem rread_len (a : Option Addr) (len cap : Nat) (h1 : len ≠ 1) (h2 : len ≠ 17) (w : World) :
    Calls Try.prog 24 #[.slice a len cap] w fun e w' => e = .returned (rrV none) ∧ Below w.heap.size w w' := by
  have i1 : ((len : Int) == 1) = false := by simp; omega
  have i2 : ((len : Int) != 17) = true := by simp; omega
  clear h1 h2
  go_enter Try.func24, Try.ntmps24
  go_wp2
  exact bodyPost_ret (v := .tuple #[.agg #[.bool false, .int .u64 0, .int .u64 0], .bool false]) (by simp [results, Try.results24, go_sem]) rfl ⟨rfl, by (repeat' (first | (with_reducible exact Below.refl _ _) | (with_reducible assumption) | (with_reducible refine Below.alloc ?_ ?_ _) | (with_reducible refine Below.drew ?_) | (with_reducible refine below_drewN ?_ _) | (with_reducible refine Below.setCell ?_ ?_ _) | (with_reducible refine below_via (by with_reducible assumption) ?_ ?_) | omega | (simp only [World.size_alloc, World.size_setCell, World.size_drew, size_drewN]; omega) | (simp only [World.size_alloc, World.size_setCell, World.size_drew, size_drewN] at *; omega)))⟩
set_option maxHeartbeats 1000000 in
theorem rread_one (b off cap z0 : Nat) (w : World) (hb : b < w.heap.size) (hc : w.cell? ⟨b, off, none⟩ = some (.int .u8 z0)) :
    Calls Try.prog 24 #[.slice (some ⟨b, off, none⟩) 1 cap] w fun e w' => e = .returned (rrV (if z0 = 0 then some none else none)) ∧ Below w.heap.size w w' := by
  have q1 := Nat.ne_of_lt hb
  by_cases h : z0 = 0
  · subst h
    rw [if_pos rfl]
    go_enter Try.func24, Try.ntmps24
    go_wp2
    exact bodyPost_ret (v := .tuple #[.agg #[.bool true, .int .u64 0, .int .u64 0], .bool true]) (by simp [results, Try.results24, go_sem]) rfl ⟨rfl, by (repeat' (first | (with_reducible exact Below.refl _ _) | (with_reducible assumption) | (with_reducible refine Below.alloc ?_ ?_ _) | (with_reducible refine Below.drew ?_) | (with_reducible refine below_drewN ?_ _) | (with_reducible refine Below.setCell ?_ ?_ _) | (with_reducible refine below_via (by with_reducible assumption) ?_ ?_) | omega | (simp only [World.size_alloc, World.size_setCell, World.size_drew, size_drewN]; omega) | (simp only [World.size_alloc, World.size_setCell, World.size_drew, size_drewN] at *; omega)))⟩
  · rw [if_neg h]
    have i1 : ((z0 : Int) == 0) = false := by simp; omega
    clear h
    go_enter Try.func24, Try.ntmps24
    go_wp2
    exact bodyPost_ret (v := .tuple #[.agg #[.bool false, .int .u64 0, .int .u64 0], .bool false]) (by simp [results, Try.results24, go_sem]) rfl ⟨rfl, by (repeat' (first | (with_reducible exact Below.refl _ _) | (with_reducible assumption) | (with_reducible refine Below.alloc ?_ ?_ _) | (with_reducible refine Below.drew ?_) | (with_reducible refine below_drewN ?_ _) | (with_reducible refine Below.setCell ?_ ?_ _) | (with_reducible refine below_via (by with_reducible assumption) ?_ ?_) | omega | (simp only [World.size_alloc, World.size_setCell, World.size_drew, size_drewN]; omega) | (simp only [World.size_alloc, World.size_setCell, World.size_drew, size_drewN] at *; omega)))⟩
set_option maxHeartbeats 1000000 in
theorem rread_form (b off cap z0 : Nat) (w : World) (hb : b < w.heap.size) (hc : w.cell? ⟨b, off, none⟩ = some (.int .u8 z0)) (h : z0 ≠ 1) :
    Calls Try.prog 24 #[.slice (some ⟨b, off, none⟩) 17 cap] w fun e w' => e = .returned (rrV none) ∧ Below w.heap.size w w' := by
  have q1 := Nat.ne_of_lt hb
  have i1 : ((z0 : Int) != 1) = true := by simp; omega
  clear h
  go_enter Try.func24, Try.ntmps24
  go_wp2
  exact bodyPost_ret (v := .tuple #[.agg #[.bool false, .int .u64 0, .int .u64 0], .bool false]) (by simp [results, Try.results24, go_sem]) rfl ⟨rfl, by (repeat' (first | (with_reducible exact Below.refl _ _) | (with_reducible assumption) | (with_reducible refine Below.alloc ?_ ?_ _) | (with_reducible refine Below.drew ?_) | (with_reducible refine below_drewN ?_ _) | (with_reducible refine Below.setCell ?_ ?_ _) | (with_reducible refine below_via (by with_reducible assumption) ?_ ?_) | omega | (simp only [World.size_alloc, World.size_setCell, World.size_drew, size_drewN]; omega) | (simp only [World.size_alloc, World.size_setCell, World.size_drew, size_drewN] at *; omega)))⟩
set_option maxHeartbeats 2000000 in
theorem rread_good (b off cap : Nat) (n0 n1 : Nat) (w : World) (hcap : 17 ≤ cap) (hb : b < w.heap.size) (hc : w.cell? ⟨b, off, none⟩ = some (.int .u8 (1 : Nat)))
    (c1 : ∀ w1, Below w.heap.size w w1 → Calls Try.prog 39 #[.slice (some ⟨b, off + 1, none⟩) 16 (cap - 1)] w1 fun e w' => e = .returned (.int .u64 n0) ∧ w1 = w')
    (c2 : ∀ w1, Below w.heap.size w w1 → Calls Try.prog 39 #[.slice (some ⟨b, off + 9, none⟩) 8 (cap - 9)] w1 fun e w' => e = .returned (.int .u64 n1) ∧ w1 = w')
    (c3 : ∀ w, Calls Try.prog 11 #[.agg #[.bool false, .int .u64 n0, .int .u64 n1]] w fun e w' => e = .returned (.bool true) ∧ Below w.heap.size w w') :
    Calls Try.prog 24 #[.slice (some ⟨b, off, none⟩) 17 cap] w fun e w' => e = .returned (.tuple #[.agg #[.bool false, .int .u64 n0, .int .u64 n1], .bool true]) ∧ Below w.heap.size w w' := by
  have q1 := Nat.ne_of_lt hb
  have i1 : (17 : Int) ≤ (cap : Int) := by omega
  have i2 : (9 : Int) ≤ (cap : Int) := by omega
  have i4 : (1 : Int) ≤ (cap : Int) := by omega
  have i3 : ¬ (cap = 9) := by omega
  have i5 : ¬ (cap = 1) := by omega
  go_enter Try.func24, Try.ntmps24
  go_wp2
  go_region_held3 (fun w' => Below w.heap.size w w') ((repeat' (first | (with_reducible exact Below.refl _ _) | (with_reducible assumption) | (with_reducible refine Below.alloc ?_ ?_ _) | (with_reducible refine Below.drew ?_) | (with_reducible refine below_drewN ?_ _) | (with_reducible refine Below.setCell ?_ ?_ _) | (with_reducible refine below_via (by with_reducible assumption) ?_ ?_) | omega | (simp only [World.size_alloc, World.size_setCell, World.size_drew, size_drewN]; omega) | (simp only [World.size_alloc, World.size_setCell, World.size_drew, size_drewN] at *; omega))))
    ((go_at_call 39; first | (with_reducible refine (c1 _ (by first | assumption | (repeat' (first | (with_reducible exact Below.refl _ _) | (with_reducible assumption) | (with_reducible refine Below.alloc ?_ ?_ _) | (with_reducible refine Below.drew ?_) | (with_reducible refine below_drewN ?_ _) | (with_reducible refine Below.setCell ?_ ?_ _) | (with_reducible refine below_via (by with_reducible assumption) ?_ ?_) | omega | (simp only [World.size_alloc, World.size_setCell, World.size_drew, size_drewN]; omega) | (simp only [World.size_alloc, World.size_setCell, World.size_drew, size_drewN] at *; omega))))).mono ?_; rintro e w' ⟨rfl, rfl⟩) | (with_reducible refine (c2 _ (by first | assumption | (repeat' (first | (with_reducible exact Below.refl _ _) | (with_reducible assumption) | (with_reducible refine Below.alloc ?_ ?_ _) | (with_reducible refine Below.drew ?_) | (with_reducible refine below_drewN ?_ _) | (with_reducible refine Below.setCell ?_ ?_ _) | (with_reducible refine below_via (by with_reducible assumption) ?_ ?_) | omega | (simp only [World.size_alloc, World.size_setCell, World.size_drew, size_drewN]; omega) | (simp only [World.size_alloc, World.size_setCell, World.size_drew, size_drewN] at *; omega))))).mono ?_; rintro e w' ⟨rfl, rfl⟩)))
  all_goals
    clear c1 c2
    go_wp2_with (first | (go_at_call 11; first | (with_reducible refine (c3 _).mono ?_; rintro e w_c3 ⟨rfl, b_c3⟩; have z_c3 := b_c3.size; (try simp only [World.size_alloc, World.size_setCell, World.size_drew, size_drewN] at z_c3); (try (have q1_c3_0 : w.heap.size < w_c3.heap.size := (by omega); have q2_c3_0 := Nat.le_of_lt q1_c3_0; have q3_c3_0 := Nat.ne_of_lt q1_c3_0; have q6_c3_0 := Nat.ne_of_gt q1_c3_0; have q4_c3_0_0 := (bcell b_c3).1 (w.heap.size) 0 (by first | omega | (simp only [World.size_alloc, World.size_setCell, World.size_drew, size_drewN]; omega)); have q5_c3_0_0 := (bcell b_c3).2 (w.heap.size) 0 (by first | omega | (simp only [World.size_alloc, World.size_setCell, World.size_drew, size_drewN]; omega)); have q4_c3_0_1 := (bcell b_c3).1 (w.heap.size) 1 (by first | omega | (simp only [World.size_alloc, World.size_setCell, World.size_drew, size_drewN]; omega)); have q5_c3_0_1 := (bcell b_c3).2 (w.heap.size) 1 (by first | omega | (simp only [World.size_alloc, World.size_setCell, World.size_drew, size_drewN]; omega)); have q4_c3_0_2 := (bcell b_c3).1 (w.heap.size) 2 (by first | omega | (simp only [World.size_alloc, World.size_setCell, World.size_drew, size_drewN]; omega)); have q5_c3_0_2 := (bcell b_c3).2 (w.heap.size) 2 (by first | omega | (simp only [World.size_alloc, World.size_setCell, World.size_drew, size_drewN]; omega)))); (try (have q1_c3_1 : w.heap.size + 1 < w_c3.heap.size := (by omega); have q2_c3_1 := Nat.le_of_lt q1_c3_1; have q3_c3_1 := Nat.ne_of_lt q1_c3_1; have q6_c3_1 := Nat.ne_of_gt q1_c3_1; have q4_c3_1_0 := (bcell b_c3).1 (w.heap.size + 1) 0 (by first | omega | (simp only [World.size_alloc, World.size_setCell, World.size_drew, size_drewN]; omega)); have q5_c3_1_0 := (bcell b_c3).2 (w.heap.size + 1) 0 (by first | omega | (simp only [World.size_alloc, World.size_setCell, World.size_drew, size_drewN]; omega)); have q4_c3_1_1 := (bcell b_c3).1 (w.heap.size + 1) 1 (by first | omega | (simp only [World.size_alloc, World.size_setCell, World.size_drew, size_drewN]; omega)); have q5_c3_1_1 := (bcell b_c3).2 (w.heap.size + 1) 1 (by first | omega | (simp only [World.size_alloc, World.size_setCell, World.size_drew, size_drewN]; omega)); have q4_c3_1_2 := (bcell b_c3).1 (w.heap.size + 1) 2 (by first | omega | (simp only [World.size_alloc, World.size_setCell, World.size_drew, size_drewN]; omega)); have q5_c3_1_2 := (bcell b_c3).2 (w.heap.size + 1) 2 (by first | omega | (simp only [World.size_alloc, World.size_setCell, World.size_drew, size_drewN]; omega)))))))
    exact bodyPost_ret (v := .tuple #[.agg #[.bool false, .int .u64 n0, .int .u64 n1], .bool true]) (by simp [results, Try.results24, go_sem, *]) rfl ⟨rfl, by (repeat' (first | (with_reducible exact Below.refl _ _) | (with_reducible assumption) | (with_reducible refine Below.alloc ?_ ?_ _) | (with_reducible refine Below.drew ?_) | (with_reducible refine below_drewN ?_ _) | (with_reducible refine Below.setCell ?_ ?_ _) | (with_reducible refine below_via (by with_reducible assumption) ?_ ?_) | omega | (simp only [World.size_alloc, World.size_setCell, World.size_drew, size_drewN]; omega) | (simp only [World.size_alloc, World.size_setCell, World.size_drew, size_drewN] at *; omega)))⟩
set_option maxHeartbeats 2000000 in
theorem rread_bad (b off cap : Nat) (n0 n1 : Nat) (w : World) (hcap : 17 ≤ cap) (hb : b < w.heap.size) (hc : w.cell? ⟨b, off, none⟩ = some (.int .u8 (1 : Nat)))
    (c1 : ∀ w1, Below w.heap.size w w1 → Calls Try.prog 39 #[.slice (some ⟨b, off + 1, none⟩) 16 (cap - 1)] w1 fun e w' => e = .returned (.int .u64 n0) ∧ w1 = w')
    (c2 : ∀ w1, Below w.heap.size w w1 → Calls Try.prog 39 #[.slice (some ⟨b, off + 9, none⟩) 8 (cap - 9)] w1 fun e w' => e = .returned (.int .u64 n1) ∧ w1 = w')
    (c3 : ∀ w, Calls Try.prog 11 #[.agg #[.bool false, .int .u64 n0, .int .u64 n1]] w fun e w' => e = .returned (.bool false) ∧ Below w.heap.size w w') :
    Calls Try.prog 24 #[.slice (some ⟨b, off, none⟩) 17 cap] w fun e w' => e = .returned (.tuple #[.agg #[.bool false, .int .u64 0, .int .u64 0], .bool false]) ∧ Below w.heap.size w w' := by
  have q1 := Nat.ne_of_lt hb
  have i1 : (17 : Int) ≤ (cap : Int) := by omega
  have i2 : (9 : Int) ≤ (cap : Int) := by omega
  have i4 : (1 : Int) ≤ (cap : Int) := by omega
  have i3 : ¬ (cap = 9) := by omega
  have i5 : ¬ (cap = 1) := by omega
  go_enter Try.func24, Try.ntmps24
  go_wp2
  go_region_held3 (fun w' => Below w.heap.size w w') ((repeat' (first | (with_reducible exact Below.refl _ _) | (with_reducible assumption) | (with_reducible refine Below.alloc ?_ ?_ _) | (with_reducible refine Below.drew ?_) | (with_reducible refine below_drewN ?_ _) | (with_reducible refine Below.setCell ?_ ?_ _) | (with_reducible refine below_via (by with_reducible assumption) ?_ ?_) | omega | (simp only [World.size_alloc, World.size_setCell, World.size_drew, size_drewN]; omega) | (simp only [World.size_alloc, World.size_setCell, World.size_drew, size_drewN] at *; omega))))
    ((go_at_call 39; first | (with_reducible refine (c1 _ (by first | assumption | (repeat' (first | (with_reducible exact Below.refl _ _) | (with_reducible assumption) | (with_reducible refine Below.alloc ?_ ?_ _) | (with_reducible refine Below.drew ?_) | (with_reducible refine below_drewN ?_ _) | (with_reducible refine Below.setCell ?_ ?_ _) | (with_reducible refine below_via (by with_reducible assumption) ?_ ?_) | omega | (simp only [World.size_alloc, World.size_setCell, World.size_drew, size_drewN]; omega) | (simp only [World.size_alloc, World.size_setCell, World.size_drew, size_drewN] at *; omega))))).mono ?_; rintro e w' ⟨rfl, rfl⟩) | (with_reducible refine (c2 _ (by first | assumption | (repeat' (first | (with_reducible exact Below.refl _ _) | (with_reducible assumption) | (with_reducible refine Below.alloc ?_ ?_ _) | (with_reducible refine Below.drew ?_) | (with_reducible refine below_drewN ?_ _) | (with_reducible refine Below.setCell ?_ ?_ _) | (with_reducible refine below_via (by with_reducible assumption) ?_ ?_) | omega | (simp only [World.size_alloc, World.size_setCell, World.size_drew, size_drewN]; omega) | (simp only [World.size_alloc, World.size_setCell, World.size_drew, size_drewN] at *; omega))))).mono ?_; rintro e w' ⟨rfl, rfl⟩)))
  all_goals
    clear c1 c2
    go_wp2_with (first | (go_at_call 11; first | (with_reducible refine (c3 _).mono ?_; rintro e w_c3 ⟨rfl, b_c3⟩; have z_c3 := b_c3.size; (try simp only [World.size_alloc, World.size_setCell, World.size_drew, size_drewN] at z_c3); (try (have q1_c3_0 : w.heap.size < w_c3.heap.size := (by omega); have q2_c3_0 := Nat.le_of_lt q1_c3_0; have q3_c3_0 := Nat.ne_of_lt q1_c3_0; have q6_c3_0 := Nat.ne_of_gt q1_c3_0; have q4_c3_0_0 := (bcell b_c3).1 (w.heap.size) 0 (by first | omega | (simp only [World.size_alloc, World.size_setCell, World.size_drew, size_drewN]; omega)); have q5_c3_0_0 := (bcell b_c3).2 (w.heap.size) 0 (by first | omega | (simp only [World.size_alloc, World.size_setCell, World.size_drew, size_drewN]; omega)); have q4_c3_0_1 := (bcell b_c3).1 (w.heap.size) 1 (by first | omega | (simp only [World.size_alloc, World.size_setCell, World.size_drew, size_drewN]; omega)); have q5_c3_0_1 := (bcell b_c3).2 (w.heap.size) 1 (by first | omega | (simp only [World.size_alloc, World.size_setCell, World.size_drew, size_drewN]; omega)); have q4_c3_0_2 := (bcell b_c3).1 (w.heap.size) 2 (by first | omega | (simp only [World.size_alloc, World.size_setCell, World.size_drew, size_drewN]; omega)); have q5_c3_0_2 := (bcell b_c3).2 (w.heap.size) 2 (by first | omega | (simp only [World.size_alloc, World.size_setCell, World.size_drew, size_drewN]; omega)))); (try (have q1_c3_1 : w.heap.size + 1 < w_c3.heap.size := (by omega); have q2_c3_1 := Nat.le_of_lt q1_c3_1; have q3_c3_1 := Nat.ne_of_lt q1_c3_1; have q6_c3_1 := Nat.ne_of_gt q1_c3_1; have q4_c3_1_0 := (bcell b_c3).1 (w.heap.size + 1) 0 (by first | omega | (simp only [World.size_alloc, World.size_setCell, World.size_drew, size_drewN]; omega)); have q5_c3_1_0 := (bcell b_c3).2 (w.heap.size + 1) 0 (by first | omega | (simp only [World.size_alloc, World.size_setCell, World.size_drew, size_drewN]; omega)); have q4_c3_1_1 := (bcell b_c3).1 (w.heap.size + 1) 1 (by first | omega | (simp only [World.size_alloc, World.size_setCell, World.size_drew, size_drewN]; omega)); have q5_c3_1_1 := (bcell b_c3).2 (w.heap.size + 1) 1 (by first | omega | (simp only [World.size_alloc, World.size_setCell, World.size_drew, size_drewN]; omega)); have q4_c3_1_2 := (bcell b_c3).1 (w.heap.size + 1) 2 (by first | omega | (simp only [World.size_alloc, World.size_setCell, World.size_drew, size_drewN]; omega)); have q5_c3_1_2 := (bcell b_c3).2 (w.heap.size + 1) 2 (by first | omega | (simp only [World.size_alloc, World.size_setCell, World.size_drew, size_drewN]; omega)))))))
    exact bodyPost_ret (v := .tuple #[.agg #[.bool false, .int .u64 0, .int .u64 0], .bool false]) (by simp [results, Try.results24, go_sem, *]) rfl ⟨rfl, by (repeat' (first | (with_reducible exact Below.refl _ _) | (with_reducible assumption) | (with_reducible refine Below.alloc ?_ ?_ _) | (with_reducible refine Below.drew ?_) | (with_reducible refine below_drewN ?_ _) | (with_reducible refine Below.setCell ?_ ?_ _) | (with_reducible refine below_via (by with_reducible assumption) ?_ ?_) | omega | (simp only [World.size_alloc, World.size_setCell, World.size_drew, size_drewN]; omega) | (simp only [World.size_alloc, World.size_setCell, World.size_drew, size_drewN] at *; omega)))⟩
theorem rreadW (b off len cap : Nat) (z : Nat → Nat) (hz : ∀ i, z i < 256) (hl : 0 < len) (hcap : len ≤ cap) (hm : cap ≤ maxLen) (w : World) (hB : Bys w b off len z) :
    Calls Try.prog 24 #[.slice (some ⟨b, off, none⟩) len cap] w fun e w' => e = .returned (rrV (rdOf len z)) ∧ Below w.heap.size w w' := by
  have hc := hB.at_ 0 hl
  rw [Nat.add_zero] at hc
  unfold rdOf
  by_cases h1 : len = 1
  · subst h1
    rw [if_pos rfl]
    exact rread_one b off cap (z 0) w hB.lt hc
  · rw [if_neg h1]
    by_cases h2 : len = 17
    · subst h2
      rw [if_pos rfl]
      by_cases h3 : z 0 = 1
      · rw [if_pos h3]
        rw [h3] at hc
        have c1 := fun w1 (h : Below w.heap.size w w1) => rnumberW b (off + 1) 16 (cap - 1) (fun i => z (1 + i)) (fun i => hz _) w1 (by decide) (by decide) ((hB.below h hB.lt).more 1 8 (by omega))
        have c2 := fun w1 (h : Below w.heap.size w w1) => rnumberW b (off + 9) 8 (cap - 9) (fun i => z (9 + i)) (fun i => hz _) w1 (by decide) (by decide) ((hB.below h hB.lt).more 9 8 (by omega))
        have c3 := risW false (rdX z) (rdY z) (rdX_word hz) (rdY_word hz)
        unfold rdPt
        cases h : isPt false (rdX z) (rdY z) with
        | true =>
          rw [h] at c3
          have e := isPt_false h
          have := rread_good b off cap (rdX z) (rdY z) w hcap hB.lt hc c1 c2 c3
          rw [e.1, e.2] at this
          exact this
        | false =>
          rw [h] at c3
          exact rread_bad b off cap (rdX z) (rdY z) w hcap hB.lt hc c1 c2 c3
      · rw [if_neg h3]
        exact rread_form b off cap (z 0) w hB.lt hc h3
    · rw [if_neg h2]
      exact rread_len _ len cap h1 h2 w

/-! What is written is read, and what was read is written -/

theorem rd_of_pby {a : Ob.Cp} (ha : Ob.onC a) : rdOf (plen a) (pby a) = some a := by
  cases a with
  | none => rfl
  | some a =>
    obtain ⟨x, y⟩ := a
    have ex : rdX (pby (some (x, y))) = x.val := by
      unfold rdX
      rw [← Ob.num_bytes x.val (Ob.F_word _)]
      refine Ob.num_congr _ _ _ fun i hi => ?_
      simp only [pby]
      rw [if_neg (by omega), show 1 + i - 1 = i by omega]
      unfold byteOf
      rw [Nat.div_eq_of_lt hi, Nat.mod_eq_of_lt hi]; rfl
    have ey : rdY (pby (some (x, y))) = y.val := by
      unfold rdY
      rw [← Ob.num_bytes y.val (Ob.F_word _)]
      refine Ob.num_congr _ _ _ fun i hi => ?_
      simp only [pby]
      rw [if_neg (by omega), show 9 + i - 1 = 8 + i by omega]
      unfold byteOf
      have e1 : (8 + i) / 8 = 1 := by omega
      have e2 : (8 + i) % 8 = i := by omega
      rw [e1, e2]; rfl
    show (if (17 : Nat) = 1 then _ else if (17 : Nat) = 17 then (if (1 : Nat) = 1 then rdPt (pby (some (x, y))) else none) else none) = _
    rw [if_neg (by decide), if_pos rfl, if_pos rfl]
    unfold rdPt
    rw [ex, ey, if_pos (show isPt false x.val y.val = true from isPt_of ha), Ob.toF_of_val, Ob.toF_of_val]
theorem rd_on {len : Nat} {z : Nat → Nat} {a : Ob.Cp} (h : rdOf len z = some a) : Ob.onC a := by
  unfold rdOf at h
  split at h
  · split at h
    · cases h; trivial
    · cases h
  · split at h
    · split at h
      · unfold rdPt at h
        split at h
        · rename_i hp
          cases h
          simp [isPt] at hp
          exact hp.2
        · cases h
      · cases h
    · cases h
theorem pby_of_rd {len : Nat} {z : Nat → Nat} (hz : ∀ i, z i < 256) {a : Ob.Cp} (h : rdOf len z = some a) : plen a = len ∧ ∀ i, i < len → pby a i = z i := by
  unfold rdOf at h
  split at h
  · rename_i h1
    subst h1
    split at h
    · rename_i h0
      cases h
      refine ⟨rfl, fun i hi => ?_⟩
      have : i = 0 := by omega
      rw [this, h0]; rfl
    · cases h
  · split at h
    · rename_i h1
      subst h1
      split at h
      · rename_i h0
        unfold rdPt at h
        split at h
        · rename_i hp
          cases h
          have e := isPt_false hp
          refine ⟨rfl, fun i hi => ?_⟩
          simp only [pby]
          split
          · rename_i hi0
            rw [hi0, h0]
          · rename_i hi0
            rw [← e.1, ← e.2]
            unfold byteOf
            by_cases h8 : i - 1 < 8
            · rw [Nat.div_eq_of_lt h8, Nat.mod_eq_of_lt h8]
              show Ob.byteAt (rdX z) (i - 1) = z i
              unfold rdX
              rw [Ob.byteAt_num _ (fun _ => hz _) _ h8]
              congr 1
              omega
            · have e1 : (i - 1) / 8 = 1 := by omega
              rw [e1]
              show Ob.byteAt (rdY z) ((i - 1) % 8) = z i
              unfold rdY
              rw [Ob.byteAt_num _ (fun _ => hz _) _ (by omega)]
              congr 1
              omega
        · cases h
      · cases h
    · cases h
end Go.Proofs.Ytcgbemnmebgmjaa
