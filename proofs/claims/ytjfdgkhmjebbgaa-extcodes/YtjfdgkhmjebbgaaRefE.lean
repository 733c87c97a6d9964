/-
  The walks of the document's own answers for layer 2 (package obolref02): sums, products, powers.
-/
import Derived.Test.YtjfdgkhmjebbgaaExtX
namespace Go.Proofs.Ytjfdgkhmjebbgaa
open Go.RowKit Go.Proofs
set_option linter.unusedVariables false
set_option linter.unusedSimpArgs false
attribute [local go_sem ↓] Go.wp_at_zero Go.wp_at_succ

theorem raddP (a b : Nat) (ha : a < 18446744073709551616) (hb : b < 18446744073709551616) (w : World) :
    Calls Try.prog 27 #[.int .u64 1152921505151057923, .int .u64 a, .int .u64 b] w fun e w' => e = .returned (.int .u64 ((Ob.toF a + Ob.toF b).val : Nat)) ∧ w = w' := by
  rw [← Ob.addF]
  exact radd_any Ob.P a b w Ob.modP ha hb
theorem rmulP (a b : Nat) (ha : a < 18446744073709551616) (hb : b < 18446744073709551616) (w : World) :
    Calls Try.prog 29 #[.int .u64 1152921505151057923, .int .u64 a, .int .u64 b] w fun e w' => e = .returned (.int .u64 ((Ob.toF a * Ob.toF b).val : Nat)) ∧ w = w' := by
  rw [← Ob.mulF]
  exact rmul_any Ob.P a b w Ob.modP ha hb

theorem negP (a : Nat) (ha : a < 18446744073709551616) (w : World) :
    Calls Try.prog 15 #[.int .u64 a] w fun e w' => e = .returned (.int .u64 ((0 - Ob.toF a : Fin Ob.P).val : Nat)) ∧ w = w' := by
  have e0 : Hid ((0 - Ob.toF a : Fin Ob.P).val = (Ob.P - a % Ob.P) % Ob.P) := by
    show (0 - Ob.toF a : Fin Ob.P).val = _
    rw [Fin.val_sub, Ob.toF_val]; rfl
  by_cases h : a % 1152921505151057923 = 0
  · have h' : ((a % 1152921505151057923 : Nat) : Int) = 0 := by omega
    have h2 : (a : Int) % 1152921505151057923 = 0 := by omega
    clear h'
    go_enter Try.func15, Try.ntmps15
    go_wp2
    go_ret
    exact ⟨ret_int (by rw [e0.out]; simp only [Ob.P]; omega), rfl⟩
  · obtain ⟨r, hr, hr'⟩ : ∃ r : Nat, (a : Int) % 1152921505151057923 = (r : Int) ∧ Hid (r = a % 1152921505151057923) := ⟨a % 1152921505151057923, by omega, rfl⟩
    have h3 : r < 1152921505151057923 := by have := hr'.out; omega
    have h4 : ¬ ((r : Int) = 0) := by have := hr'.out; omega
    have h5 : ((r : Int) == 0) = false := by simpa using h4
    clear h
    go_enter Try.func15, Try.ntmps15
    go_wp2
    go_ret
    exact ⟨ret_int (by rw [e0.out]; have := hr'.out; simp only [Ob.P]; omega), rfl⟩

set_option maxHeartbeats 1000000 in
theorem ofW (a0 a1 : Nat) (w : World) (ha0 : a0 < 18446744073709551616) (ha1 : a1 < 18446744073709551616) :
    Calls Try.prog 14 #[.agg #[.int .u64 a0, .int .u64 a1]] w fun e w' => e = .returned (.agg #[.int .u64 ((Ob.toE a0 a1).1.val : Nat), .int .u64 ((Ob.toE a0 a1).2.val : Nat)]) ∧ Below w.heap.size w w' := by
  obtain ⟨r0, hr0, hr0'⟩ : ∃ r : Nat, (a0 : Int) % 1152921505151057923 = (r : Int) ∧ Hid (r = (Ob.toE a0 a1).1.val) := ⟨a0 % 1152921505151057923, by omega, rfl⟩
  obtain ⟨r1, hr1, hr1'⟩ : ∃ r : Nat, (a1 : Int) % 1152921505151057923 = (r : Int) ∧ Hid (r = (Ob.toE a0 a1).2.val) := ⟨a1 % 1152921505151057923, by omega, rfl⟩
  rw [← hr0'.out, ← hr1'.out]
  clear hr0' hr1'
  go_enter Try.func14, Try.ntmps14
  go_wp2
  exact bodyPost_ret (v := .agg #[.int .u64 r0, .int .u64 r1]) (by simp [results, Try.results14, go_sem]) rfl ⟨rfl, by (repeat' (first | (with_reducible exact Below.refl _ _) | (with_reducible assumption) | (with_reducible refine Below.alloc ?_ ?_ _) | (with_reducible refine Below.drew ?_) | (with_reducible refine below_drewN ?_ _) | (with_reducible refine Below.setCell ?_ ?_ _) | (with_reducible refine below_via (by with_reducible assumption) ?_ ?_) | omega | (simp only [World.size_alloc, World.size_setCell, World.size_drew, size_drewN]; omega) | (simp only [World.size_alloc, World.size_setCell, World.size_drew, size_drewN] at *; omega)))⟩

set_option maxHeartbeats 1000000 in
theorem reAdd_core (a0 a1 b0 b1 r0 r1 : Int) (w : World)
   (c0 : ∀ w, Calls Try.prog 27 #[.int .u64 1152921505151057923, .int .u64 a0, .int .u64 b0] w fun e w' => e = .returned (.int .u64 r0) ∧ w = w')
   (c1 : ∀ w, Calls Try.prog 27 #[.int .u64 1152921505151057923, .int .u64 a1, .int .u64 b1] w fun e w' => e = .returned (.int .u64 r1) ∧ w = w') :
    Calls Try.prog 13 #[.agg #[.int .u64 a0, .int .u64 a1], .agg #[.int .u64 b0, .int .u64 b1]] w fun e w' => e = .returned (.agg #[.int .u64 r0, .int .u64 r1]) ∧ Below w.heap.size w w' := by
  go_enter Try.func13, Try.ntmps13
  go_wp2
  go_region_held3 (fun w' => w'.cell? ⟨w.heap.size, 0, none⟩ = some (.int .u64 a0) ∧ w'.cell? ⟨w.heap.size, 1, none⟩ = some (.int .u64 a1) ∧ w'.cell? ⟨w.heap.size + 1, 0, none⟩ = some (.int .u64 b0) ∧ w'.cell? ⟨w.heap.size + 1, 1, none⟩ = some (.int .u64 b1)) (go_keep)
    ((first | (go_at_call 27; first | (with_reducible refine (c0 _).mono ?_; rintro e w' ⟨rfl, rfl⟩) | (with_reducible refine (c1 _).mono ?_; rintro e w' ⟨rfl, rfl⟩))))
  go_wp2
  exact bodyPost_ret (v := .agg #[.int .u64 r0, .int .u64 r1]) (by simp [results, Try.results13, go_sem]) rfl ⟨rfl, by (repeat' (first | (with_reducible exact Below.refl _ _) | (with_reducible assumption) | (with_reducible refine Below.alloc ?_ ?_ _) | (with_reducible refine Below.drew ?_) | (with_reducible refine below_drewN ?_ _) | (with_reducible refine Below.setCell ?_ ?_ _) | (with_reducible refine below_via (by with_reducible assumption) ?_ ?_) | omega | (simp only [World.size_alloc, World.size_setCell, World.size_drew, size_drewN]; omega) | (simp only [World.size_alloc, World.size_setCell, World.size_drew, size_drewN] at *; omega)))⟩
theorem reAddW (a0 a1 b0 b1 : Nat) (ha0 : a0 < 18446744073709551616) (ha1 : a1 < 18446744073709551616) (hb0 : b0 < 18446744073709551616) (hb1 : b1 < 18446744073709551616) (w : World) :
    Calls Try.prog 13 #[.agg #[.int .u64 a0, .int .u64 a1], .agg #[.int .u64 b0, .int .u64 b1]] w fun e w' => e = .returned (.agg #[.int .u64 ((Ob.eadd (Ob.toE a0 a1) (Ob.toE b0 b1)).1.val : Nat), .int .u64 ((Ob.eadd (Ob.toE a0 a1) (Ob.toE b0 b1)).2.val : Nat)]) ∧ Below w.heap.size w w' :=
  reAdd_core a0 a1 b0 b1 _ _ w (raddP a0 b0 ha0 hb0) (raddP a1 b1 ha1 hb1)

set_option maxHeartbeats 4000000 in
theorem reMul_core (a0 a1 b0 b1 x y s t n r0 r1 : Int) (w : World)
   (c0 : ∀ w, Calls Try.prog 29 #[.int .u64 1152921505151057923, .int .u64 a0, .int .u64 b0] w fun e w' => e = .returned (.int .u64 x) ∧ w = w')
   (c1 : ∀ w, Calls Try.prog 29 #[.int .u64 1152921505151057923, .int .u64 a1, .int .u64 b1] w fun e w' => e = .returned (.int .u64 y) ∧ w = w')
   (c2 : ∀ w, Calls Try.prog 29 #[.int .u64 1152921505151057923, .int .u64 a0, .int .u64 b1] w fun e w' => e = .returned (.int .u64 s) ∧ w = w')
   (c3 : ∀ w, Calls Try.prog 29 #[.int .u64 1152921505151057923, .int .u64 a1, .int .u64 b0] w fun e w' => e = .returned (.int .u64 t) ∧ w = w')
   (c6 : ∀ w, Calls Try.prog 15 #[.int .u64 y] w fun e w' => e = .returned (.int .u64 n) ∧ w = w')
   (c4 : ∀ w, Calls Try.prog 27 #[.int .u64 1152921505151057923, .int .u64 x, .int .u64 n] w fun e w' => e = .returned (.int .u64 r0) ∧ w = w')
   (c5 : ∀ w, Calls Try.prog 27 #[.int .u64 1152921505151057923, .int .u64 s, .int .u64 t] w fun e w' => e = .returned (.int .u64 r1) ∧ w = w') :
    Calls Try.prog 17 #[.agg #[.int .u64 a0, .int .u64 a1], .agg #[.int .u64 b0, .int .u64 b1]] w fun e w' => e = .returned (.agg #[.int .u64 r0, .int .u64 r1]) ∧ Below w.heap.size w w' := by
  go_enter Try.func17, Try.ntmps17
  go_wp2_with (first | (go_at_call 29; first | (with_reducible refine (c0 _).mono ?_; rintro e w' ⟨rfl, rfl⟩) | (with_reducible refine (c1 _).mono ?_; rintro e w' ⟨rfl, rfl⟩) | (with_reducible refine (c2 _).mono ?_; rintro e w' ⟨rfl, rfl⟩) | (with_reducible refine (c3 _).mono ?_; rintro e w' ⟨rfl, rfl⟩)) | (go_at_call 15; first | (with_reducible refine (c6 _).mono ?_; rintro e w' ⟨rfl, rfl⟩)) | (go_at_call 27; first | (with_reducible refine (c4 _).mono ?_; rintro e w' ⟨rfl, rfl⟩) | (with_reducible refine (c5 _).mono ?_; rintro e w' ⟨rfl, rfl⟩)))
  exact bodyPost_ret (v := .agg #[.int .u64 r0, .int .u64 r1]) (by simp [results, Try.results17, go_sem]) rfl ⟨rfl, by (repeat' (first | (with_reducible exact Below.refl _ _) | (with_reducible assumption) | (with_reducible refine Below.alloc ?_ ?_ _) | (with_reducible refine Below.drew ?_) | (with_reducible refine below_drewN ?_ _) | (with_reducible refine Below.setCell ?_ ?_ _) | (with_reducible refine below_via (by with_reducible assumption) ?_ ?_) | omega | (simp only [World.size_alloc, World.size_setCell, World.size_drew, size_drewN]; omega) | (simp only [World.size_alloc, World.size_setCell, World.size_drew, size_drewN] at *; omega)))⟩
theorem reMulW (a0 a1 b0 b1 : Nat) (ha0 : a0 < 18446744073709551616) (ha1 : a1 < 18446744073709551616) (hb0 : b0 < 18446744073709551616) (hb1 : b1 < 18446744073709551616) (w : World) :
    Calls Try.prog 17 #[.agg #[.int .u64 a0, .int .u64 a1], .agg #[.int .u64 b0, .int .u64 b1]] w fun e w' => e = .returned (.agg #[.int .u64 ((Ob.emul (Ob.toE a0 a1) (Ob.toE b0 b1)).1.val : Nat), .int .u64 ((Ob.emul (Ob.toE a0 a1) (Ob.toE b0 b1)).2.val : Nat)]) ∧ Below w.heap.size w w' := by
  have h6 := negP (Ob.toF a1 * Ob.toF b1).val (Ob.F_word _)
  have h4 := raddP (Ob.toF a0 * Ob.toF b0).val (0 - Ob.toF a1 * Ob.toF b1 : Fin Ob.P).val (Ob.F_word _) (Ob.F_word _)
  have h5 := raddP (Ob.toF a0 * Ob.toF b1).val (Ob.toF a1 * Ob.toF b0).val (Ob.F_word _) (Ob.F_word _)
  simp only [Ob.toF_of_val] at h4 h5 h6
  have e : Ob.toF a0 * Ob.toF b0 + (0 - Ob.toF a1 * Ob.toF b1) = Ob.toF a0 * Ob.toF b0 - Ob.toF a1 * Ob.toF b1 := by grind
  rw [e] at h4
  exact reMul_core a0 a1 b0 b1 _ _ _ _ _ _ _ w (rmulP a0 b0 ha0 hb0) (rmulP a1 b1 ha1 hb1) (rmulP a0 b1 ha0 hb1) (rmulP a1 b0 ha1 hb0) h6 h4 h5

set_option maxHeartbeats 1000000 in
theorem rePowW (a0 a1 x : Nat) (ha0 : a0 < 18446744073709551616) (ha1 : a1 < 18446744073709551616) (hx : x < 18446744073709551616) (w : World) :
    Calls Try.prog 20 #[.agg #[.int .u64 a0, .int .u64 a1], .int .u64 x] w fun e w' => e = .returned (.agg #[.int .u64 ((Ob.epow (Ob.toE a0 a1) x).1.val : Nat), .int .u64 ((Ob.epow (Ob.toE a0 a1) x).2.val : Nat)]) ∧ Below w.heap.size w w' := by
  obtain ⟨T, hT⟩ : ∃ T, Hid (T = Ob.epow (Ob.toE a0 a1) x) := ⟨_, rfl⟩
  rw [← hT.out]
  go_enter Try.func20, Try.ntmps20
  go_wp2
  go_loopw [6] (fun si wr => ∃ i p0 p1 : Nat, p0 < 1152921505151057923 ∧ p1 < 1152921505151057923 ∧ i ≤ 64 ∧ si = .int .i64 i ∧
    Two wr w.heap.size (.int .u64 a0) (.int .u64 a1) ∧ Two wr (w.heap.size + 1) (.int .u64 0) (.int .u64 0) ∧ Two wr (w.heap.size + 1 + 1) (.int .u64 p0) (.int .u64 p1) ∧ Below w.heap.size w wr ∧ Hid (Ob.toE p0 p1 = Ob.epow (Ob.toE a0 a1) (x / 2 ^ (64 - i)))) (fun si _ => 64 - (intOf si).toNat)
  case atStart =>
    exact ⟨0, 1, 0, by decide, by decide, by omega, rfl, ((Two.new (by simp)).alloc _).alloc _, (Two.new (by simp)).alloc _, Two.new (by simp), by (repeat' (first | (with_reducible exact Below.refl _ _) | (with_reducible assumption) | (with_reducible refine Below.alloc ?_ ?_ _) | (with_reducible refine Below.drew ?_) | (with_reducible refine below_drewN ?_ _) | (with_reducible refine Below.setCell ?_ ?_ _) | (with_reducible refine below_via (by with_reducible assumption) ?_ ?_) | omega | (simp only [World.size_alloc, World.size_setCell, World.size_drew, size_drewN]; omega) | (simp only [World.size_alloc, World.size_setCell, World.size_drew, size_drewN] at *; omega))), by
      have : x / 2 ^ (64 - 0) = 0 := Nat.div_eq_of_lt (by omega)
      show Ob.toE 1 0 = Ob.epow (Ob.toE a0 a1) (x / 2 ^ (64 - 0))
      rw [this]; rfl⟩
  case round =>
    obtain ⟨i, p0, p1, hp0, hp1, hi, rfl, t1, t2, t3, hB, hI⟩ := hrel
    have ⟨d1, d2, d3, d4, d5⟩ := t1
    have ⟨e1, e2, e3, e4, e5⟩ := t2
    have ⟨g1, g2, g3, g4, g5⟩ := t3
    by_cases hlt : i < 64
    · obtain ⟨k, hk⟩ : ∃ k, k + i = 63 := ⟨63 - i, by omega⟩
      have hyk : x / 2 ^ k < 18446744073709551616 := Nat.lt_of_le_of_lt (Nat.div_le_self _ _) (by omega)
      obtain ⟨t, ht⟩ : ∃ t : Nat, (x : Int) / 2 ^ (63 - i) = (t : Int) ∧ Hid (t = x / 2 ^ k) := ⟨x / 2 ^ k, by
        have : 63 - i = k := by omega
        rw [this]
        simp, rfl⟩
      obtain ⟨ht, htk⟩ := ht
      have hand := and_one t (by rw [htk.out]; exact hyk)
      have sq := reMulW p0 p1 p0 p1 (by omega) (by omega) (by omega) (by omega)
      obtain ⟨q0, q1, hq0, hq1, hq⟩ : ∃ q0 q1 : Nat, Hid (q0 = (Ob.emul (Ob.toE p0 p1) (Ob.toE p0 p1)).1.val) ∧ Hid (q1 = (Ob.emul (Ob.toE p0 p1) (Ob.toE p0 p1)).2.val) ∧ Hid (Ob.toE q0 q1 = Ob.emul (Ob.toE p0 p1) (Ob.toE p0 p1)) := ⟨_, _, rfl, rfl, Ob.toE_val _⟩
      rw [← hq0.out, ← hq1.out] at sq
      have lq0 : q0 < 1152921505151057923 := by rw [hq0.out]; exact Ob.F_lt _
      have lq1 : q1 < 1152921505151057923 := by rw [hq1.out]; exact Ob.F_lt _
      clear hq0 hq1
      have hI2 : Hid (Ob.epow (Ob.toE a0 a1) (x / 2 ^ k) = Ob.emul (Ob.toE q0 q1) (Ob.epow (Ob.toE a0 a1) (t % 2))) := by
        have e1 : 64 - i = k + 1 := by omega
        have := hI.out
        rw [e1] at this
        show Ob.epow (Ob.toE a0 a1) (x / 2 ^ k) = Ob.emul (Ob.toE q0 q1) (Ob.epow (Ob.toE a0 a1) (t % 2))
        rw [Ob.epow_bit, ← this, hq.out, ← htk.out]
      clear hI hyk htk hq
      have e2 : Hid (64 - (i + 1) = k) := by show 64 - (i + 1) = k; omega
      by_cases hbit : t % 2 = 1
      · have hb1 : ((t % 2 : Nat) : Int) = 1 := by omega
        rw [hb1] at hand
        clear hb1
        have ml := reMulW q0 q1 a0 a1 (by omega) (by omega) ha0 ha1
        obtain ⟨s0, s1, hs0, hs1, hs⟩ : ∃ s0 s1 : Nat, Hid (s0 = (Ob.emul (Ob.toE q0 q1) (Ob.toE a0 a1)).1.val) ∧ Hid (s1 = (Ob.emul (Ob.toE q0 q1) (Ob.toE a0 a1)).2.val) ∧ Hid (Ob.toE s0 s1 = Ob.emul (Ob.toE q0 q1) (Ob.toE a0 a1)) := ⟨_, _, rfl, rfl, Ob.toE_val _⟩
        rw [← hs0.out, ← hs1.out] at ml
        have ls0 : s0 < 1152921505151057923 := by rw [hs0.out]; exact Ob.F_lt _
        have ls1 : s1 < 1152921505151057923 := by rw [hs1.out]; exact Ob.F_lt _
        clear hs0 hs1
        have hn : Hid (Ob.toE s0 s1 = Ob.epow (Ob.toE a0 a1) (x / 2 ^ k)) := by
          show Ob.toE s0 s1 = Ob.epow (Ob.toE a0 a1) (x / 2 ^ k)
          rw [hI2.out, hbit, Ob.epow_one]; exact hs
        clear hI2 hbit hs
        go_wp2_with (first | (go_at_call 17; first | (with_reducible refine (sq _).mono ?_; rintro e w_sq ⟨rfl, b_sq⟩; have z_sq := b_sq.size; (try simp only [World.size_alloc, World.size_setCell, World.size_drew, size_drewN] at z_sq); (try (have q1 : w.heap.size < w_sq.heap.size := (by omega); have q2 := Nat.le_of_lt q1; have q3 := Nat.ne_of_lt q1; have q6 := Nat.ne_of_gt q1; have q4 := (bcell b_sq).1 (w.heap.size) 0 (by first | omega | (simp only [World.size_alloc, World.size_setCell, World.size_drew, size_drewN]; omega)); have q5 := (bcell b_sq).2 (w.heap.size) 0 (by first | omega | (simp only [World.size_alloc, World.size_setCell, World.size_drew, size_drewN]; omega)); have q4 := (bcell b_sq).1 (w.heap.size) 1 (by first | omega | (simp only [World.size_alloc, World.size_setCell, World.size_drew, size_drewN]; omega)); have q5 := (bcell b_sq).2 (w.heap.size) 1 (by first | omega | (simp only [World.size_alloc, World.size_setCell, World.size_drew, size_drewN]; omega)))); (try (have q1 : w.heap.size + 1 < w_sq.heap.size := (by omega); have q2 := Nat.le_of_lt q1; have q3 := Nat.ne_of_lt q1; have q6 := Nat.ne_of_gt q1; have q4 := (bcell b_sq).1 (w.heap.size + 1) 0 (by first | omega | (simp only [World.size_alloc, World.size_setCell, World.size_drew, size_drewN]; omega)); have q5 := (bcell b_sq).2 (w.heap.size + 1) 0 (by first | omega | (simp only [World.size_alloc, World.size_setCell, World.size_drew, size_drewN]; omega)); have q4 := (bcell b_sq).1 (w.heap.size + 1) 1 (by first | omega | (simp only [World.size_alloc, World.size_setCell, World.size_drew, size_drewN]; omega)); have q5 := (bcell b_sq).2 (w.heap.size + 1) 1 (by first | omega | (simp only [World.size_alloc, World.size_setCell, World.size_drew, size_drewN]; omega)))); (try (have q1 : w.heap.size + 1 + 1 < w_sq.heap.size := (by omega); have q2 := Nat.le_of_lt q1; have q3 := Nat.ne_of_lt q1; have q6 := Nat.ne_of_gt q1; have q4 := (bcell b_sq).1 (w.heap.size + 1 + 1) 0 (by first | omega | (simp only [World.size_alloc, World.size_setCell, World.size_drew, size_drewN]; omega)); have q5 := (bcell b_sq).2 (w.heap.size + 1 + 1) 0 (by first | omega | (simp only [World.size_alloc, World.size_setCell, World.size_drew, size_drewN]; omega)); have q4 := (bcell b_sq).1 (w.heap.size + 1 + 1) 1 (by first | omega | (simp only [World.size_alloc, World.size_setCell, World.size_drew, size_drewN]; omega)); have q5 := (bcell b_sq).2 (w.heap.size + 1 + 1) 1 (by first | omega | (simp only [World.size_alloc, World.size_setCell, World.size_drew, size_drewN]; omega))))) | (with_reducible refine (ml _).mono ?_; rintro e w_ml ⟨rfl, b_ml⟩; have z_ml := b_ml.size; (try simp only [World.size_alloc, World.size_setCell, World.size_drew, size_drewN] at z_ml); (try (have q1 : w.heap.size < w_ml.heap.size := (by omega); have q2 := Nat.le_of_lt q1; have q3 := Nat.ne_of_lt q1; have q6 := Nat.ne_of_gt q1; have q4 := (bcell b_ml).1 (w.heap.size) 0 (by first | omega | (simp only [World.size_alloc, World.size_setCell, World.size_drew, size_drewN]; omega)); have q5 := (bcell b_ml).2 (w.heap.size) 0 (by first | omega | (simp only [World.size_alloc, World.size_setCell, World.size_drew, size_drewN]; omega)); have q4 := (bcell b_ml).1 (w.heap.size) 1 (by first | omega | (simp only [World.size_alloc, World.size_setCell, World.size_drew, size_drewN]; omega)); have q5 := (bcell b_ml).2 (w.heap.size) 1 (by first | omega | (simp only [World.size_alloc, World.size_setCell, World.size_drew, size_drewN]; omega)))); (try (have q1 : w.heap.size + 1 < w_ml.heap.size := (by omega); have q2 := Nat.le_of_lt q1; have q3 := Nat.ne_of_lt q1; have q6 := Nat.ne_of_gt q1; have q4 := (bcell b_ml).1 (w.heap.size + 1) 0 (by first | omega | (simp only [World.size_alloc, World.size_setCell, World.size_drew, size_drewN]; omega)); have q5 := (bcell b_ml).2 (w.heap.size + 1) 0 (by first | omega | (simp only [World.size_alloc, World.size_setCell, World.size_drew, size_drewN]; omega)); have q4 := (bcell b_ml).1 (w.heap.size + 1) 1 (by first | omega | (simp only [World.size_alloc, World.size_setCell, World.size_drew, size_drewN]; omega)); have q5 := (bcell b_ml).2 (w.heap.size + 1) 1 (by first | omega | (simp only [World.size_alloc, World.size_setCell, World.size_drew, size_drewN]; omega)))); (try (have q1 : w.heap.size + 1 + 1 < w_ml.heap.size := (by omega); have q2 := Nat.le_of_lt q1; have q3 := Nat.ne_of_lt q1; have q6 := Nat.ne_of_gt q1; have q4 := (bcell b_ml).1 (w.heap.size + 1 + 1) 0 (by first | omega | (simp only [World.size_alloc, World.size_setCell, World.size_drew, size_drewN]; omega)); have q5 := (bcell b_ml).2 (w.heap.size + 1 + 1) 0 (by first | omega | (simp only [World.size_alloc, World.size_setCell, World.size_drew, size_drewN]; omega)); have q4 := (bcell b_ml).1 (w.heap.size + 1 + 1) 1 (by first | omega | (simp only [World.size_alloc, World.size_setCell, World.size_drew, size_drewN]; omega)); have q5 := (bcell b_ml).2 (w.heap.size + 1 + 1) 1 (by first | omega | (simp only [World.size_alloc, World.size_setCell, World.size_drew, size_drewN]; omega)))))))
        go_roundw
        case rel => exact ⟨i + 1, _, _, ls0, ls1, by omega, by go_num, by (repeat' (first | (with_reducible assumption) | (with_reducible exact Two.own (by with_reducible assumption)) | (with_reducible refine Two.set ?_ _ _) | (with_reducible refine Own2.set ?_ _ _) | (with_reducible refine Two.drew ?_) | (with_reducible refine Two.drewN ?_ _) | (with_reducible refine Own2.drew ?_) | (with_reducible refine Own2.drewN ?_ _) | (with_reducible refine Two.new ?_; simp only [World.size_alloc, World.size_setCell, World.size_drew, size_drewN]; done) | (with_reducible refine Own2.new ?_; simp only [World.size_alloc, World.size_setCell, World.size_drew, size_drewN]; done) | (with_reducible refine Two.alloc ?_ _) | (with_reducible refine Own2.alloc ?_ _) | (with_reducible refine Two.far ?_ ?_ _ _) | (with_reducible refine Own2.far ?_ ?_ _ _) | (with_reducible refine Two.via (by with_reducible assumption) ?_ ?_) | (with_reducible refine Own2.via (by with_reducible assumption) ?_ ?_) | omega | (simp only [World.size_alloc, World.size_setCell, World.size_drew, size_drewN]; omega))), by (repeat' (first | (with_reducible assumption) | (with_reducible exact Two.own (by with_reducible assumption)) | (with_reducible refine Two.set ?_ _ _) | (with_reducible refine Own2.set ?_ _ _) | (with_reducible refine Two.drew ?_) | (with_reducible refine Two.drewN ?_ _) | (with_reducible refine Own2.drew ?_) | (with_reducible refine Own2.drewN ?_ _) | (with_reducible refine Two.new ?_; simp only [World.size_alloc, World.size_setCell, World.size_drew, size_drewN]; done) | (with_reducible refine Own2.new ?_; simp only [World.size_alloc, World.size_setCell, World.size_drew, size_drewN]; done) | (with_reducible refine Two.alloc ?_ _) | (with_reducible refine Own2.alloc ?_ _) | (with_reducible refine Two.far ?_ ?_ _ _) | (with_reducible refine Own2.far ?_ ?_ _ _) | (with_reducible refine Two.via (by with_reducible assumption) ?_ ?_) | (with_reducible refine Own2.via (by with_reducible assumption) ?_ ?_) | omega | (simp only [World.size_alloc, World.size_setCell, World.size_drew, size_drewN]; omega))), by (repeat' (first | (with_reducible assumption) | (with_reducible exact Two.own (by with_reducible assumption)) | (with_reducible refine Two.set ?_ _ _) | (with_reducible refine Own2.set ?_ _ _) | (with_reducible refine Two.drew ?_) | (with_reducible refine Two.drewN ?_ _) | (with_reducible refine Own2.drew ?_) | (with_reducible refine Own2.drewN ?_ _) | (with_reducible refine Two.new ?_; simp only [World.size_alloc, World.size_setCell, World.size_drew, size_drewN]; done) | (with_reducible refine Own2.new ?_; simp only [World.size_alloc, World.size_setCell, World.size_drew, size_drewN]; done) | (with_reducible refine Two.alloc ?_ _) | (with_reducible refine Own2.alloc ?_ _) | (with_reducible refine Two.far ?_ ?_ _ _) | (with_reducible refine Own2.far ?_ ?_ _ _) | (with_reducible refine Two.via (by with_reducible assumption) ?_ ?_) | (with_reducible refine Own2.via (by with_reducible assumption) ?_ ?_) | omega | (simp only [World.size_alloc, World.size_setCell, World.size_drew, size_drewN]; omega))), by (repeat' (first | (with_reducible exact Below.refl _ _) | (with_reducible assumption) | (with_reducible refine Below.alloc ?_ ?_ _) | (with_reducible refine Below.drew ?_) | (with_reducible refine below_drewN ?_ _) | (with_reducible refine Below.setCell ?_ ?_ _) | (with_reducible refine below_via (by with_reducible assumption) ?_ ?_) | omega | (simp only [World.size_alloc, World.size_setCell, World.size_drew, size_drewN]; omega) | (simp only [World.size_alloc, World.size_setCell, World.size_drew, size_drewN] at *; omega))), by show _ = _; rw [e2.out]; exact hn⟩
        case measure => simp [intOf]; omega
      · have hb1 : ((t % 2 : Nat) : Int) = 0 := by omega
        rw [hb1] at hand
        clear hb1
        have hn : Hid (Ob.toE q0 q1 = Ob.epow (Ob.toE a0 a1) (x / 2 ^ k)) := by
          show Ob.toE q0 q1 = Ob.epow (Ob.toE a0 a1) (x / 2 ^ k)
          have hz : t % 2 = 0 := by omega
          rw [hI2.out, hz]; exact (Ob.emul_one _).symm
        clear hI2 hbit
        go_wp2_with (first | (go_at_call 17; first | (with_reducible refine (sq _).mono ?_; rintro e w_sq ⟨rfl, b_sq⟩; have z_sq := b_sq.size; (try simp only [World.size_alloc, World.size_setCell, World.size_drew, size_drewN] at z_sq); (try (have q1 : w.heap.size < w_sq.heap.size := (by omega); have q2 := Nat.le_of_lt q1; have q3 := Nat.ne_of_lt q1; have q6 := Nat.ne_of_gt q1; have q4 := (bcell b_sq).1 (w.heap.size) 0 (by first | omega | (simp only [World.size_alloc, World.size_setCell, World.size_drew, size_drewN]; omega)); have q5 := (bcell b_sq).2 (w.heap.size) 0 (by first | omega | (simp only [World.size_alloc, World.size_setCell, World.size_drew, size_drewN]; omega)); have q4 := (bcell b_sq).1 (w.heap.size) 1 (by first | omega | (simp only [World.size_alloc, World.size_setCell, World.size_drew, size_drewN]; omega)); have q5 := (bcell b_sq).2 (w.heap.size) 1 (by first | omega | (simp only [World.size_alloc, World.size_setCell, World.size_drew, size_drewN]; omega)))); (try (have q1 : w.heap.size + 1 < w_sq.heap.size := (by omega); have q2 := Nat.le_of_lt q1; have q3 := Nat.ne_of_lt q1; have q6 := Nat.ne_of_gt q1; have q4 := (bcell b_sq).1 (w.heap.size + 1) 0 (by first | omega | (simp only [World.size_alloc, World.size_setCell, World.size_drew, size_drewN]; omega)); have q5 := (bcell b_sq).2 (w.heap.size + 1) 0 (by first | omega | (simp only [World.size_alloc, World.size_setCell, World.size_drew, size_drewN]; omega)); have q4 := (bcell b_sq).1 (w.heap.size + 1) 1 (by first | omega | (simp only [World.size_alloc, World.size_setCell, World.size_drew, size_drewN]; omega)); have q5 := (bcell b_sq).2 (w.heap.size + 1) 1 (by first | omega | (simp only [World.size_alloc, World.size_setCell, World.size_drew, size_drewN]; omega)))); (try (have q1 : w.heap.size + 1 + 1 < w_sq.heap.size := (by omega); have q2 := Nat.le_of_lt q1; have q3 := Nat.ne_of_lt q1; have q6 := Nat.ne_of_gt q1; have q4 := (bcell b_sq).1 (w.heap.size + 1 + 1) 0 (by first | omega | (simp only [World.size_alloc, World.size_setCell, World.size_drew, size_drewN]; omega)); have q5 := (bcell b_sq).2 (w.heap.size + 1 + 1) 0 (by first | omega | (simp only [World.size_alloc, World.size_setCell, World.size_drew, size_drewN]; omega)); have q4 := (bcell b_sq).1 (w.heap.size + 1 + 1) 1 (by first | omega | (simp only [World.size_alloc, World.size_setCell, World.size_drew, size_drewN]; omega)); have q5 := (bcell b_sq).2 (w.heap.size + 1 + 1) 1 (by first | omega | (simp only [World.size_alloc, World.size_setCell, World.size_drew, size_drewN]; omega)))))))
        go_roundw
        case rel => exact ⟨i + 1, _, _, lq0, lq1, by omega, by go_num, by (repeat' (first | (with_reducible assumption) | (with_reducible exact Two.own (by with_reducible assumption)) | (with_reducible refine Two.set ?_ _ _) | (with_reducible refine Own2.set ?_ _ _) | (with_reducible refine Two.drew ?_) | (with_reducible refine Two.drewN ?_ _) | (with_reducible refine Own2.drew ?_) | (with_reducible refine Own2.drewN ?_ _) | (with_reducible refine Two.new ?_; simp only [World.size_alloc, World.size_setCell, World.size_drew, size_drewN]; done) | (with_reducible refine Own2.new ?_; simp only [World.size_alloc, World.size_setCell, World.size_drew, size_drewN]; done) | (with_reducible refine Two.alloc ?_ _) | (with_reducible refine Own2.alloc ?_ _) | (with_reducible refine Two.far ?_ ?_ _ _) | (with_reducible refine Own2.far ?_ ?_ _ _) | (with_reducible refine Two.via (by with_reducible assumption) ?_ ?_) | (with_reducible refine Own2.via (by with_reducible assumption) ?_ ?_) | omega | (simp only [World.size_alloc, World.size_setCell, World.size_drew, size_drewN]; omega))), by (repeat' (first | (with_reducible assumption) | (with_reducible exact Two.own (by with_reducible assumption)) | (with_reducible refine Two.set ?_ _ _) | (with_reducible refine Own2.set ?_ _ _) | (with_reducible refine Two.drew ?_) | (with_reducible refine Two.drewN ?_ _) | (with_reducible refine Own2.drew ?_) | (with_reducible refine Own2.drewN ?_ _) | (with_reducible refine Two.new ?_; simp only [World.size_alloc, World.size_setCell, World.size_drew, size_drewN]; done) | (with_reducible refine Own2.new ?_; simp only [World.size_alloc, World.size_setCell, World.size_drew, size_drewN]; done) | (with_reducible refine Two.alloc ?_ _) | (with_reducible refine Own2.alloc ?_ _) | (with_reducible refine Two.far ?_ ?_ _ _) | (with_reducible refine Own2.far ?_ ?_ _ _) | (with_reducible refine Two.via (by with_reducible assumption) ?_ ?_) | (with_reducible refine Own2.via (by with_reducible assumption) ?_ ?_) | omega | (simp only [World.size_alloc, World.size_setCell, World.size_drew, size_drewN]; omega))), by (repeat' (first | (with_reducible assumption) | (with_reducible exact Two.own (by with_reducible assumption)) | (with_reducible refine Two.set ?_ _ _) | (with_reducible refine Own2.set ?_ _ _) | (with_reducible refine Two.drew ?_) | (with_reducible refine Two.drewN ?_ _) | (with_reducible refine Own2.drew ?_) | (with_reducible refine Own2.drewN ?_ _) | (with_reducible refine Two.new ?_; simp only [World.size_alloc, World.size_setCell, World.size_drew, size_drewN]; done) | (with_reducible refine Own2.new ?_; simp only [World.size_alloc, World.size_setCell, World.size_drew, size_drewN]; done) | (with_reducible refine Two.alloc ?_ _) | (with_reducible refine Own2.alloc ?_ _) | (with_reducible refine Two.far ?_ ?_ _ _) | (with_reducible refine Own2.far ?_ ?_ _ _) | (with_reducible refine Two.via (by with_reducible assumption) ?_ ?_) | (with_reducible refine Own2.via (by with_reducible assumption) ?_ ?_) | omega | (simp only [World.size_alloc, World.size_setCell, World.size_drew, size_drewN]; omega))), by (repeat' (first | (with_reducible exact Below.refl _ _) | (with_reducible assumption) | (with_reducible refine Below.alloc ?_ ?_ _) | (with_reducible refine Below.drew ?_) | (with_reducible refine below_drewN ?_ _) | (with_reducible refine Below.setCell ?_ ?_ _) | (with_reducible refine below_via (by with_reducible assumption) ?_ ?_) | omega | (simp only [World.size_alloc, World.size_setCell, World.size_drew, size_drewN]; omega) | (simp only [World.size_alloc, World.size_setCell, World.size_drew, size_drewN] at *; omega))), by show _ = _; rw [e2.out]; exact hn⟩
        case measure => simp [intOf]; omega
    · have hn : Hid (p0 = T.1.val ∧ p1 = T.2.val) := by
        have := hI.out
        have e : 64 - i = 0 := by omega
        rw [e, Nat.pow_zero, Nat.div_one, ← hT.out] at this
        exact Ob.val_of_toE hp0 hp1 this
      clear hI hT
      go_wp2
      exact bodyPost_ret (v := .agg #[.int .u64 p0, .int .u64 p1]) (by simp [results, Try.results20, go_sem, *]) rfl ⟨by rw [hn.out.1, hn.out.2], by (repeat' (first | (with_reducible exact Below.refl _ _) | (with_reducible assumption) | (with_reducible refine Below.alloc ?_ ?_ _) | (with_reducible refine Below.drew ?_) | (with_reducible refine below_drewN ?_ _) | (with_reducible refine Below.setCell ?_ ?_ _) | (with_reducible refine below_via (by with_reducible assumption) ?_ ?_) | omega | (simp only [World.size_alloc, World.size_setCell, World.size_drew, size_drewN]; omega) | (simp only [World.size_alloc, World.size_setCell, World.size_drew, size_drewN] at *; omega)))⟩
end Go.Proofs.Ytjfdgkhmjebbgaa
