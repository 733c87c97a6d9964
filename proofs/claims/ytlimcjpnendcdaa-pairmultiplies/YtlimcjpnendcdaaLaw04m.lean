/-
  PairMultiplies, walked.
-/
import Derived.Test.YtlimcjpnendcdaaRefT
import Derived.Test.YtlimcjpnendcdaaPairR
import Derived.Test.YtlimcjpnendcdaaCodes
namespace Go.Proofs.Ytlimcjpnendcdaa
open Go.RowKit Go.Proofs
set_option linter.unusedVariables false
set_option linter.unusedSimpArgs false
attribute [local go_sem ↓] Go.wp_at_zero Go.wp_at_succ
attribute [local go_sem] field_Pt

set_option maxHeartbeats 1000000 in
theorem multiplies_big (a q : Option Addr) (n m c d : Nat) (h : 6 < n ∨ 6 < m) (w : World)
   (cu : ∀ w, Calls Try.prog 8 #[] w fun e w' => e = .returned (.bool true) ∧ Below w.heap.size w w') :
    Calls Try.prog 4 #[.slice a n c, .slice q m d] w fun e w' => e = .returned (.bool true) ∧ Below w.heap.size w w' := by
  by_cases h1 : 6 < n
  · have h1' : (6 : Int) < (n : Int) := by omega
    clear h h1
    go_enter Try.func4, Try.ntmps4
    go_wp2_with (first | (go_at_call 8; first | (with_reducible refine (cu _).mono ?_; rintro e w_cu ⟨rfl, b_cu⟩; have z_cu := b_cu.size; (try simp only [World.size_alloc, World.size_setCell, World.size_drew, size_drewN] at z_cu))))
    go_ret
    exact ⟨rfl, by (repeat' (first | (with_reducible exact Below.refl _ _) | (with_reducible assumption) | (with_reducible refine Below.alloc ?_ ?_ _) | (with_reducible refine Below.drew ?_) | (with_reducible refine below_drewN ?_ _) | (with_reducible refine Below.setCell ?_ ?_ _) | (with_reducible refine below_via (by with_reducible assumption) ?_ ?_) | omega | (simp only [World.size_alloc, World.size_setCell, World.size_drew, size_drewN]; omega) | (simp only [World.size_alloc, World.size_setCell, World.size_drew, size_drewN] at *; omega)))⟩
  · have h1' : ¬ (6 : Int) < (n : Int) := by omega
    have h2' : (6 : Int) < (m : Int) := by omega
    clear h h1
    go_enter Try.func4, Try.ntmps4
    go_wp2_with (first | (go_at_call 8; first | (with_reducible refine (cu _).mono ?_; rintro e w_cu ⟨rfl, b_cu⟩; have z_cu := b_cu.size; (try simp only [World.size_alloc, World.size_setCell, World.size_drew, size_drewN] at z_cu))))
    go_ret
    exact ⟨rfl, by (repeat' (first | (with_reducible exact Below.refl _ _) | (with_reducible assumption) | (with_reducible refine Below.alloc ?_ ?_ _) | (with_reducible refine Below.drew ?_) | (with_reducible refine below_drewN ?_ _) | (with_reducible refine Below.setCell ?_ ?_ _) | (with_reducible refine below_via (by with_reducible assumption) ?_ ?_) | omega | (simp only [World.size_alloc, World.size_setCell, World.size_drew, size_drewN]; omega) | (simp only [World.size_alloc, World.size_setCell, World.size_drew, size_drewN] at *; omega)))⟩

theorem p3pair_nz (p r : P3) : p3pair p r = Ob.zeroE ↔ (p3in p && p3in r) = false := by
  show pairOf _ _ _ _ _ _ = _ ↔ (inR _ _ _ && inR _ _ _) = false
  unfold pairOf
  cases h : inR p.1 p.2.1 p.2.2 && inR r.1 r.2.1 r.2.2 with
  | false => simp
  | true =>
    obtain ⟨h1, h2⟩ := Bool.and_eq_true_iff.1 h
    rw [if_pos rfl]
    refine ⟨fun e => absurd e (Ob.mill_nz (inR_iff.1 h1).2.1 (inR_iff.1 h2).2 _), fun e => absurd e (by decide)⟩
theorem allIn_no {p r : Nat → P3} {n i : Nat} (hi : i < n) (h : (p3in (p i) && p3in (r i)) = false) : allIn p r n = false := by
  cases e : allIn p r n with
  | false => rfl
  | true =>
    have := (allIn_iff p r n).1 e i hi
    rw [this.1, this.2] at h
    exact absurd h (by decide)

set_option maxHeartbeats 4000000 in
theorem multiplies_len (a q : Option Addr) (n m c d : Nat) (hn : n ≤ 6) (hm : m ≤ 6) (hnm : n ≠ m) (w : World) :
    Calls Try.prog 4 #[.slice a n c, .slice q m d] w fun e w' => e = .returned (.bool true) ∧ Below w.heap.size w w' := by
  have cu := upW
  have c2 := lawone
  have hn' : decide ((6 : Int) < (n : Int)) = false := decide_eq_false (by omega)
  have hm' : decide ((6 : Int) < (m : Int)) = false := decide_eq_false (by omega)
  have hq0 : ¬ (n : Int) = (m : Int) := by omega
  have hq' : ((n : Int) == (m : Int)) = false := by simpa using hq0
  have cp := product_len a q n m c d hnm
  have ec := fun w => eql_code w 1 1
  have q1 : ∀ w : World, (Op.equalIn 10000 27 (.agg #[.int .u64 0, .int .u64 0]) (.agg #[.int .u64 0, .int .u64 0])).run Try.prog w = .ok true w := fun w => by rw [equal_E]; rfl
  clear hn hm hnm hq0
  go_enter Try.func4, Try.ntmps4
  go_wp2_with (first | (go_at_call 8; first | (with_reducible refine (cu _).mono ?_; rintro e w_cu ⟨rfl, b_cu⟩; have z_cu := b_cu.size; (try simp only [World.size_alloc, World.size_setCell, World.size_drew, size_drewN] at z_cu); (try (have q1_cu_0 : w_cp.heap.size < w_cu.heap.size := (by omega); have q2_cu_0 := Nat.le_of_lt q1_cu_0; have q3_cu_0 := Nat.ne_of_lt q1_cu_0; have q6_cu_0 := Nat.ne_of_gt q1_cu_0; have q4_cu_0_0 := (bcell b_cu).1 (w_cp.heap.size) 0 (by first | omega | (simp only [World.size_alloc, World.size_setCell, World.size_drew, size_drewN]; omega)); have q5_cu_0_0 := (bcell b_cu).2 (w_cp.heap.size) 0 (by first | omega | (simp only [World.size_alloc, World.size_setCell, World.size_drew, size_drewN]; omega)); have q4_cu_0_1 := (bcell b_cu).1 (w_cp.heap.size) 1 (by first | omega | (simp only [World.size_alloc, World.size_setCell, World.size_drew, size_drewN]; omega)); have q5_cu_0_1 := (bcell b_cu).2 (w_cp.heap.size) 1 (by first | omega | (simp only [World.size_alloc, World.size_setCell, World.size_drew, size_drewN]; omega)))))) | (go_at_call 12; first | (with_reducible refine (c2 _).mono ?_; rintro e w_c2 ⟨rfl, b_c2⟩; have z_c2 := b_c2.size; (try simp only [World.size_alloc, World.size_setCell, World.size_drew, size_drewN] at z_c2); (try (have q1_c2_0 : w_cp.heap.size < w_c2.heap.size := (by omega); have q2_c2_0 := Nat.le_of_lt q1_c2_0; have q3_c2_0 := Nat.ne_of_lt q1_c2_0; have q6_c2_0 := Nat.ne_of_gt q1_c2_0; have q4_c2_0_0 := (bcell b_c2).1 (w_cp.heap.size) 0 (by first | omega | (simp only [World.size_alloc, World.size_setCell, World.size_drew, size_drewN]; omega)); have q5_c2_0_0 := (bcell b_c2).2 (w_cp.heap.size) 0 (by first | omega | (simp only [World.size_alloc, World.size_setCell, World.size_drew, size_drewN]; omega)); have q4_c2_0_1 := (bcell b_c2).1 (w_cp.heap.size) 1 (by first | omega | (simp only [World.size_alloc, World.size_setCell, World.size_drew, size_drewN]; omega)); have q5_c2_0_1 := (bcell b_c2).2 (w_cp.heap.size) 1 (by first | omega | (simp only [World.size_alloc, World.size_setCell, World.size_drew, size_drewN]; omega)))))) | (go_at_call 11; first | (with_reducible refine (cp _).mono ?_; rintro e w_cp ⟨rfl, b_cp⟩; have z_cp := b_cp.size; (try simp only [World.size_alloc, World.size_setCell, World.size_drew, size_drewN] at z_cp); (try (have q1_cp_0 : w_cp.heap.size < w_cp.heap.size := (by omega); have q2_cp_0 := Nat.le_of_lt q1_cp_0; have q3_cp_0 := Nat.ne_of_lt q1_cp_0; have q6_cp_0 := Nat.ne_of_gt q1_cp_0; have q4_cp_0_0 := (bcell b_cp).1 (w_cp.heap.size) 0 (by first | omega | (simp only [World.size_alloc, World.size_setCell, World.size_drew, size_drewN]; omega)); have q5_cp_0_0 := (bcell b_cp).2 (w_cp.heap.size) 0 (by first | omega | (simp only [World.size_alloc, World.size_setCell, World.size_drew, size_drewN]; omega)); have q4_cp_0_1 := (bcell b_cp).1 (w_cp.heap.size) 1 (by first | omega | (simp only [World.size_alloc, World.size_setCell, World.size_drew, size_drewN]; omega)); have q5_cp_0_1 := (bcell b_cp).2 (w_cp.heap.size) 1 (by first | omega | (simp only [World.size_alloc, World.size_setCell, World.size_drew, size_drewN]; omega)))))))
  go_rounds 1
  all_goals
    go_ret
    exact ⟨rfl, by (repeat' (first | (with_reducible exact Below.refl _ _) | (with_reducible assumption) | (with_reducible refine Below.alloc ?_ ?_ _) | (with_reducible refine Below.drew ?_) | (with_reducible refine below_drewN ?_ _) | (with_reducible refine Below.setCell ?_ ?_ _) | (with_reducible refine below_via (by with_reducible assumption) ?_ ?_) | omega | (simp only [World.size_alloc, World.size_setCell, World.size_drew, size_drewN]; omega) | (simp only [World.size_alloc, World.size_setCell, World.size_drew, size_drewN] at *; omega)))⟩

set_option maxHeartbeats 4000000 in
theorem multiplies_core (a q : Option Addr) (n c d : Nat) (hn : n ≤ 6) (p r : Nat → P3) (vp : ∀ i, i < n → P3w (p i)) (vr : ∀ i, i < n → P3w (r i)) (w : World) (ha : PtsAt w a n p) (hq : PtsAt w q n r) :
    Calls Try.prog 4 #[.slice a n c, .slice q n d] w fun e w' => e = .returned (.bool true) ∧ Below w.heap.size w w' := by
  have cu := upW
  have c2 := lawone
  have hn' : decide ((6 : Int) < (n : Int)) = false := decide_eq_false (by omega)
  obtain ⟨E, hE⟩ : ∃ E, Hid (prodE p r n n = E) := ⟨_, rfl⟩
  obtain ⟨er, her⟩ : ∃ er, Hid (errV (prodOk p r n n) = er) := ⟨_, rfl⟩
  have cp : ∀ w1, Below w.heap.size w w1 → Calls Try.prog 11 #[.slice a n c, .slice q n d] w1 fun e w' => e = .returned (.tuple #[.agg #[.int .u64 (E.1.val : Nat), .int .u64 (E.2.val : Nat)], er]) ∧ Below w1.heap.size w1 w' := fun w1 h => by
    have := productW a q n n c d (by omega) p r vp vr w1 (ha.below h) (hq.below h)
    rw [hE.out, her.out] at this
    exact this
  have ha' : Hid (PtsAt w a n p) := ha
  have hq' : Hid (PtsAt w q n r) := hq
  have vp' : Hid (∀ i, i < n → P3w (p i)) := vp
  have vr' : Hid (∀ i, i < n → P3w (r i)) := vr
  clear ha hq vp vr
  go_enter Try.func4, Try.ntmps4
  go_wp2_with (first | (first | (go_at_call 8; first | (with_reducible refine (cu _).mono ?_; rintro e w_cu ⟨rfl, b_cu⟩; have z_cu := b_cu.size; (try simp only [World.size_alloc, World.size_setCell, World.size_drew, size_drewN] at z_cu); (try (have q1_cu_0 : w_cp.heap.size < w_cu.heap.size := (by omega); have q2_cu_0 := Nat.le_of_lt q1_cu_0; have q3_cu_0 := Nat.ne_of_lt q1_cu_0; have q6_cu_0 := Nat.ne_of_gt q1_cu_0; have q4_cu_0_0 := (bcell b_cu).1 (w_cp.heap.size) 0 (by first | omega | (simp only [World.size_alloc, World.size_setCell, World.size_drew, size_drewN]; omega)); have q5_cu_0_0 := (bcell b_cu).2 (w_cp.heap.size) 0 (by first | omega | (simp only [World.size_alloc, World.size_setCell, World.size_drew, size_drewN]; omega)); have q4_cu_0_1 := (bcell b_cu).1 (w_cp.heap.size) 1 (by first | omega | (simp only [World.size_alloc, World.size_setCell, World.size_drew, size_drewN]; omega)); have q5_cu_0_1 := (bcell b_cu).2 (w_cp.heap.size) 1 (by first | omega | (simp only [World.size_alloc, World.size_setCell, World.size_drew, size_drewN]; omega)))))) | (go_at_call 12; first | (with_reducible refine (c2 _).mono ?_; rintro e w_c2 ⟨rfl, b_c2⟩; have z_c2 := b_c2.size; (try simp only [World.size_alloc, World.size_setCell, World.size_drew, size_drewN] at z_c2); (try (have q1_c2_0 : w_cp.heap.size < w_c2.heap.size := (by omega); have q2_c2_0 := Nat.le_of_lt q1_c2_0; have q3_c2_0 := Nat.ne_of_lt q1_c2_0; have q6_c2_0 := Nat.ne_of_gt q1_c2_0; have q4_c2_0_0 := (bcell b_c2).1 (w_cp.heap.size) 0 (by first | omega | (simp only [World.size_alloc, World.size_setCell, World.size_drew, size_drewN]; omega)); have q5_c2_0_0 := (bcell b_c2).2 (w_cp.heap.size) 0 (by first | omega | (simp only [World.size_alloc, World.size_setCell, World.size_drew, size_drewN]; omega)); have q4_c2_0_1 := (bcell b_c2).1 (w_cp.heap.size) 1 (by first | omega | (simp only [World.size_alloc, World.size_setCell, World.size_drew, size_drewN]; omega)); have q5_c2_0_1 := (bcell b_c2).2 (w_cp.heap.size) 1 (by first | omega | (simp only [World.size_alloc, World.size_setCell, World.size_drew, size_drewN]; omega))))))) | (go_at_call 11; (with_reducible refine (cp _ (by (repeat' (first | (with_reducible exact Below.refl _ _) | (with_reducible assumption) | (with_reducible refine Below.alloc ?_ ?_ _) | (with_reducible refine Below.drew ?_) | (with_reducible refine below_drewN ?_ _) | (with_reducible refine Below.setCell ?_ ?_ _) | (with_reducible refine below_via (by with_reducible assumption) ?_ ?_) | omega | (simp only [World.size_alloc, World.size_setCell, World.size_drew, size_drewN]; omega) | (simp only [World.size_alloc, World.size_setCell, World.size_drew, size_drewN] at *; omega))))).mono ?_); rintro e w_cp ⟨rfl, b_cp⟩; have z_cp := b_cp.size))
  have hB : Below w.heap.size w (w_c2.alloc (.cells #[.int .u64 1, .int .u64 0] 27)) := by (repeat' (first | (with_reducible exact Below.refl _ _) | (with_reducible assumption) | (with_reducible refine Below.alloc ?_ ?_ _) | (with_reducible refine Below.drew ?_) | (with_reducible refine below_drewN ?_ _) | (with_reducible refine Below.setCell ?_ ?_ _) | (with_reducible refine below_via (by with_reducible assumption) ?_ ?_) | omega | (simp only [World.size_alloc, World.size_setCell, World.size_drew, size_drewN]; omega) | (simp only [World.size_alloc, World.size_setCell, World.size_drew, size_drewN] at *; omega)))
  have te : Two (w_c2.alloc (.cells #[.int .u64 1, .int .u64 0] 27)) w_cp.heap.size (.int .u64 (E.1.val : Nat)) (.int .u64 (E.2.val : Nat)) := by (repeat' (first | (with_reducible assumption) | (with_reducible exact Two.own (by with_reducible assumption)) | (with_reducible refine Two.set ?_ _ _) | (with_reducible refine Own2.set ?_ _ _) | (with_reducible refine Two.drew ?_) | (with_reducible refine Two.drewN ?_ _) | (with_reducible refine Own2.drew ?_) | (with_reducible refine Own2.drewN ?_ _) | (with_reducible refine Two.new ?_; simp only [World.size_alloc, World.size_setCell, World.size_drew, size_drewN]; done) | (with_reducible refine Own2.new ?_; simp only [World.size_alloc, World.size_setCell, World.size_drew, size_drewN]; done) | (with_reducible refine Two.alloc ?_ _) | (with_reducible refine Own2.alloc ?_ _) | (with_reducible refine Two.far ?_ ?_ _ _) | (with_reducible refine Own2.far ?_ ?_ _ _) | (with_reducible refine Two.via (by with_reducible assumption) ?_ ?_) | (with_reducible refine Own2.via (by with_reducible assumption) ?_ ?_) | omega | (simp only [World.size_alloc, World.size_setCell, World.size_drew, size_drewN]; omega)))
  have tw : Two (w_c2.alloc (.cells #[.int .u64 1, .int .u64 0] 27)) w_c2.heap.size (.int .u64 1) (.int .u64 0) := by (repeat' (first | (with_reducible assumption) | (with_reducible exact Two.own (by with_reducible assumption)) | (with_reducible refine Two.set ?_ _ _) | (with_reducible refine Own2.set ?_ _ _) | (with_reducible refine Two.drew ?_) | (with_reducible refine Two.drewN ?_ _) | (with_reducible refine Own2.drew ?_) | (with_reducible refine Own2.drewN ?_ _) | (with_reducible refine Two.new ?_; simp only [World.size_alloc, World.size_setCell, World.size_drew, size_drewN]; done) | (with_reducible refine Own2.new ?_; simp only [World.size_alloc, World.size_setCell, World.size_drew, size_drewN]; done) | (with_reducible refine Two.alloc ?_ _) | (with_reducible refine Own2.alloc ?_ _) | (with_reducible refine Two.far ?_ ?_ _ _) | (with_reducible refine Own2.far ?_ ?_ _ _) | (with_reducible refine Two.via (by with_reducible assumption) ?_ ?_) | (with_reducible refine Own2.via (by with_reducible assumption) ?_ ?_) | omega | (simp only [World.size_alloc, World.size_setCell, World.size_drew, size_drewN]; omega)))
  have lw : w.heap.size ≤ w_c2.heap.size := by (simp only [World.size_alloc, World.size_setCell, World.size_drew, size_drewN] at *; omega)
  have nb : w_cp.heap.size < w_c2.heap.size := by (simp only [World.size_alloc, World.size_setCell, World.size_drew, size_drewN] at *; omega)
  ((try clear q4_c2_0_0); (try clear q5_c2_0_0); (try clear q4_c2_0_1); (try clear q5_c2_0_1); (try clear q2_c2_0); (try clear q3_c2_0); (try clear q6_c2_0); (try clear q1_c2_0))
  generalize w_c2.alloc (.cells #[.int .u64 1, .int .u64 0] 27) = W at *
  clear b_cu z_cu b_c2 z_c2 b_cp z_cp cu c2 cp
  generalize w_cp.heap.size = be at *
  generalize w_c2.heap.size = bw at *
  go_loopw [9, 10] (fun s9 s10 wq => ∃ (i : Nat) (ok : Bool) (G : Ob.EE), i ≤ n ∧ s10 = .int .i64 (i : Int) ∧ s9 = .bool ok ∧ Two wq be (.int .u64 (E.1.val : Nat)) (.int .u64 (E.2.val : Nat)) ∧ Two wq bw (.int .u64 (G.1.val : Nat)) (.int .u64 (G.2.val : Nat)) ∧ Below w.heap.size w wq ∧
    Hid ((ok = true → allIn p r i = true ∧ G = prodT p r i) ∧ (ok = false → allIn p r n = false))) (fun _ s10 _ => n - (intOf s10).toNat)
  case atStart => exact ⟨0, true, Ob.one, by omega, rfl, rfl, te, tw, hB, ⟨fun _ => ⟨rfl, rfl⟩, fun h => absurd h (by decide)⟩⟩
  case round =>
    clear te tw hB
    obtain ⟨i, ok, G, hi, rfl, rfl, te, tw, hB, hI⟩ := hrel
    have l1 := hB.size
    cases ok with
    | false =>
      have hk : allIn p r n = false := hI.out.2 rfl
      have hok : prodOk p r n n = false := by unfold prodOk; rw [hk, Bool.and_false]
      have hE0 : E = Ob.zeroE := by rw [← hE.out]; unfold prodE; rw [hok]; rfl
      have her0 : er = .iface 37 (.int .i64 1) := by rw [← her.out]; unfold errV; rw [hok]; rfl
      subst hE0 her0
      have ec := fun w => eql_code w 1 1
      have q1 : ∀ w : World, (Op.equalIn 10000 27 (.agg #[.int .u64 0, .int .u64 0]) (.agg #[.int .u64 0, .int .u64 0])).run Try.prog w = .ok true w := fun w => by rw [equal_E]; rfl
      have te0 : Two wr be (.int .u64 0) (.int .u64 0) := te
      have ⟨d1, d2, d3, d4, d5⟩ := te0
      clear hE her hk hok hI te te0 tw
      go_wp2
      all_goals
        go_ret
        exact ⟨rfl, by (repeat' (first | (with_reducible exact Below.refl _ _) | (with_reducible assumption) | (with_reducible refine Below.alloc ?_ ?_ _) | (with_reducible refine Below.drew ?_) | (with_reducible refine below_drewN ?_ _) | (with_reducible refine Below.setCell ?_ ?_ _) | (with_reducible refine below_via (by with_reducible assumption) ?_ ?_) | omega | (simp only [World.size_alloc, World.size_setCell, World.size_drew, size_drewN]; omega) | (simp only [World.size_alloc, World.size_setCell, World.size_drew, size_drewN] at *; omega)))⟩
    | true =>
      obtain ⟨hin, hG⟩ := hI.out.1 rfl
      by_cases hlt : i < n
      · rcases ha'.out with h0 | ⟨b, off, rfl, ha⟩
        · omega
        rcases hq'.out with h0 | ⟨b', off', rfl, hq⟩
        · omega
        have wpi := vp'.out i hlt
        have wri := vr'.out i hlt
        have cx : ∀ w, Calls Try.prog 10 #[.agg #[.bool (p i).1, .int .u64 ((p i).2.1 : Nat), .int .u64 ((p i).2.2 : Nat)], .agg #[.bool (r i).1, .int .u64 ((r i).2.1 : Nat), .int .u64 ((r i).2.2 : Nat)]] w fun e w' => e = .returned (eV (p3pair (p i) (r i))) ∧ Below w.heap.size w w' := rpairW (p i).1 (r i).1 (p i).2.1 (p i).2.2 (r i).2.1 (r i).2.2 wpi.1 wpi.2 wri.1 wri.2
        have cm := reMulV G (p3pair (p i) (r i))
        have qx := fun w : World => equal_E w ((p3pair (p i) (r i)).1.val : Nat) ((p3pair (p i) (r i)).2.val : Nat) 0 0
        have qz : ((((p3pair (p i) (r i)).1.val : Nat) : Int) == 0 && (((p3pair (p i) (r i)).2.val : Nat) : Int) == 0) = decide (p3pair (p i) (r i) = Ob.zeroE) := beqE (p3pair (p i) (r i)) Ob.zeroE
        rw [qz] at qx
        obtain ⟨X, hX⟩ : ∃ X, Hid (p3pair (p i) (r i) = X) := ⟨_, rfl⟩
        have hn : Hid ((decide (X = Ob.zeroE) = false → allIn p r (i + 1) = true ∧ Ob.emul G X = prodT p r (i + 1)) ∧ (decide (X = Ob.zeroE) = true → allIn p r n = false)) := by
          have hnz := p3pair_nz (p i) (r i)
          rw [hX.out] at hnz
          refine ⟨fun h => ⟨?_, ?_⟩, fun h => ?_⟩
          · have h1 : ¬ X = Ob.zeroE := of_decide_eq_false h
            show (allIn p r i && (p3in (p i) && p3in (r i))) = true
            rw [hin, Bool.true_and]
            cases e : p3in (p i) && p3in (r i) with
            | true => rfl
            | false => exact absurd (hnz.2 e) h1
          · rw [hG]
            show _ = Ob.emul (prodT p r i) (p3pair (p i) (r i))
            rw [hX.out]
          · exact allIn_no hlt (hnz.1 (of_decide_eq_true h))
        rw [hX.out] at cx cm qx
        clear hX qz wpi wri hI hin hG
        generalize Ob.emul G X = G2 at *
        unfold eV at cx cm
        have ha2 : Hid (PtsIn w b off n p) := ha
        have hq2 : Hid (PtsIn w b' off' n r) := hq
        clear ha hq
        have hI : (i : Int) < (n : Int) := by omega
        have hI0 : (0 : Int) ≤ (i : Int) := by omega
        have hI6 : (n : Int) ≤ 6 := by omega
        have l2 := te.lt
        have l3 := tw.lt
        generalize hz : decide (X = Ob.zeroE) = z at *
        go_wp2
        go_cut [11] (fun s11 wx => ∃ bx : Nat, s11 = .pointer (some ⟨bx, 0, none⟩) ∧ Two wx bx (.int .u64 (X.1.val : Nat)) (.int .u64 (X.2.val : Nat)) ∧ Two wx be (.int .u64 (E.1.val : Nat)) (.int .u64 (E.2.val : Nat)) ∧ Two wx bw (.int .u64 (G.1.val : Nat)) (.int .u64 (G.2.val : Nat)) ∧ Below w.heap.size w wx ∧ bw < bx)
        case first =>
          go_region_held3 (fun w' => w'.cell? ⟨b, off + i * 3, none⟩ = some (.bool (p i).1) ∧ w'.cell? ⟨b, off + i * 3 + 1, none⟩ = some (.int .u64 ((p i).2.1 : Nat)) ∧ w'.cell? ⟨b, off + i * 3 + 2, none⟩ = some (.int .u64 ((p i).2.2 : Nat)) ∧ w'.cell? ⟨b', off' + i * 3, none⟩ = some (.bool (r i).1) ∧ w'.cell? ⟨b', off' + i * 3 + 1, none⟩ = some (.int .u64 ((r i).2.1 : Nat)) ∧ w'.cell? ⟨b', off' + i * 3 + 2, none⟩ = some (.int .u64 ((r i).2.2 : Nat)))
            ((refine cells_and3 ((ha2.out.below (B := w.heap.size) ?_ ha2.out.lt).at hlt) ((hq2.out.below (B := w.heap.size) ?_ hq2.out.lt).at hlt) <;> (repeat' (first | (with_reducible exact Below.refl _ _) | (with_reducible assumption) | (with_reducible refine Below.alloc ?_ ?_ _) | (with_reducible refine Below.drew ?_) | (with_reducible refine below_drewN ?_ _) | (with_reducible refine Below.setCell ?_ ?_ _) | (with_reducible refine below_via (by with_reducible assumption) ?_ ?_) | omega | (simp only [World.size_alloc, World.size_setCell, World.size_drew, size_drewN]; omega) | (simp only [World.size_alloc, World.size_setCell, World.size_drew, size_drewN] at *; omega)))))
            ((first | (go_at_call 10; first | (with_reducible refine (cx _).mono ?_; rintro e w_cx ⟨rfl, b_cx⟩; have z_cx := b_cx.size; (try simp only [World.size_alloc, World.size_setCell, World.size_drew, size_drewN] at z_cx); (try (have q1_cx_0 : wr.heap.size < w_cx.heap.size := (by omega); have q2_cx_0 := Nat.le_of_lt q1_cx_0; have q3_cx_0 := Nat.ne_of_lt q1_cx_0; have q6_cx_0 := Nat.ne_of_gt q1_cx_0; have q4_cx_0_0 := (bcell b_cx).1 (wr.heap.size) 0 (by first | omega | (simp only [World.size_alloc, World.size_setCell, World.size_drew, size_drewN]; omega)); have q5_cx_0_0 := (bcell b_cx).2 (wr.heap.size) 0 (by first | omega | (simp only [World.size_alloc, World.size_setCell, World.size_drew, size_drewN]; omega)); have q4_cx_0_1 := (bcell b_cx).1 (wr.heap.size) 1 (by first | omega | (simp only [World.size_alloc, World.size_setCell, World.size_drew, size_drewN]; omega)); have q5_cx_0_1 := (bcell b_cx).2 (wr.heap.size) 1 (by first | omega | (simp only [World.size_alloc, World.size_setCell, World.size_drew, size_drewN]; omega))))))))
          all_goals
            go_wp2
            go_meet
            case rel => exact ⟨_, rfl, by (repeat' (first | (with_reducible assumption) | (with_reducible exact Two.own (by with_reducible assumption)) | (with_reducible refine Two.set ?_ _ _) | (with_reducible refine Own2.set ?_ _ _) | (with_reducible refine Two.drew ?_) | (with_reducible refine Two.drewN ?_ _) | (with_reducible refine Own2.drew ?_) | (with_reducible refine Own2.drewN ?_ _) | (with_reducible refine Two.new ?_; simp only [World.size_alloc, World.size_setCell, World.size_drew, size_drewN]; done) | (with_reducible refine Own2.new ?_; simp only [World.size_alloc, World.size_setCell, World.size_drew, size_drewN]; done) | (with_reducible refine Two.alloc ?_ _) | (with_reducible refine Own2.alloc ?_ _) | (with_reducible refine Two.far ?_ ?_ _ _) | (with_reducible refine Own2.far ?_ ?_ _ _) | (with_reducible refine Two.via (by with_reducible assumption) ?_ ?_) | (with_reducible refine Own2.via (by with_reducible assumption) ?_ ?_) | omega | (simp only [World.size_alloc, World.size_setCell, World.size_drew, size_drewN]; omega))), by (repeat' (first | (with_reducible assumption) | (with_reducible exact Two.own (by with_reducible assumption)) | (with_reducible refine Two.set ?_ _ _) | (with_reducible refine Own2.set ?_ _ _) | (with_reducible refine Two.drew ?_) | (with_reducible refine Two.drewN ?_ _) | (with_reducible refine Own2.drew ?_) | (with_reducible refine Own2.drewN ?_ _) | (with_reducible refine Two.new ?_; simp only [World.size_alloc, World.size_setCell, World.size_drew, size_drewN]; done) | (with_reducible refine Own2.new ?_; simp only [World.size_alloc, World.size_setCell, World.size_drew, size_drewN]; done) | (with_reducible refine Two.alloc ?_ _) | (with_reducible refine Own2.alloc ?_ _) | (with_reducible refine Two.far ?_ ?_ _ _) | (with_reducible refine Own2.far ?_ ?_ _ _) | (with_reducible refine Two.via (by with_reducible assumption) ?_ ?_) | (with_reducible refine Own2.via (by with_reducible assumption) ?_ ?_) | omega | (simp only [World.size_alloc, World.size_setCell, World.size_drew, size_drewN]; omega))), by (repeat' (first | (with_reducible assumption) | (with_reducible exact Two.own (by with_reducible assumption)) | (with_reducible refine Two.set ?_ _ _) | (with_reducible refine Own2.set ?_ _ _) | (with_reducible refine Two.drew ?_) | (with_reducible refine Two.drewN ?_ _) | (with_reducible refine Own2.drew ?_) | (with_reducible refine Own2.drewN ?_ _) | (with_reducible refine Two.new ?_; simp only [World.size_alloc, World.size_setCell, World.size_drew, size_drewN]; done) | (with_reducible refine Own2.new ?_; simp only [World.size_alloc, World.size_setCell, World.size_drew, size_drewN]; done) | (with_reducible refine Two.alloc ?_ _) | (with_reducible refine Own2.alloc ?_ _) | (with_reducible refine Two.far ?_ ?_ _ _) | (with_reducible refine Own2.far ?_ ?_ _ _) | (with_reducible refine Two.via (by with_reducible assumption) ?_ ?_) | (with_reducible refine Own2.via (by with_reducible assumption) ?_ ?_) | omega | (simp only [World.size_alloc, World.size_setCell, World.size_drew, size_drewN]; omega))), by (repeat' (first | (with_reducible exact Below.refl _ _) | (with_reducible assumption) | (with_reducible refine Below.alloc ?_ ?_ _) | (with_reducible refine Below.drew ?_) | (with_reducible refine below_drewN ?_ _) | (with_reducible refine Below.setCell ?_ ?_ _) | (with_reducible refine below_via (by with_reducible assumption) ?_ ?_) | omega | (simp only [World.size_alloc, World.size_setCell, World.size_drew, size_drewN]; omega) | (simp only [World.size_alloc, World.size_setCell, World.size_drew, size_drewN] at *; omega))), by first | omega | (simp only [World.size_alloc, World.size_setCell, World.size_drew, size_drewN]; omega)⟩
        case rest =>
          clear te tw hB l2 l3
          obtain ⟨bx, rfl, tx, te, tw, hB, lx⟩ := hcut
          have l2 := te.lt
          have l3 := tw.lt
          have l4 := tx.lt
          have l5 := hB.size
          have ⟨d1, d2, d3, d4, d5⟩ := tx
          have ⟨e1, e2, e3, e4, e5⟩ := tw
          go_wp2_with (first | (go_at_call 13; first | (with_reducible refine (cm _).mono ?_; rintro e w_cm ⟨rfl, b_cm⟩; have z_cm := b_cm.size; (try simp only [World.size_alloc, World.size_setCell, World.size_drew, size_drewN] at z_cm); (try (have q1_cm_0 : bw < w_cm.heap.size := (by omega); have q2_cm_0 := Nat.le_of_lt q1_cm_0; have q3_cm_0 := Nat.ne_of_lt q1_cm_0; have q6_cm_0 := Nat.ne_of_gt q1_cm_0; have q4_cm_0_0 := (bcell b_cm).1 (bw) 0 (by first | omega | (simp only [World.size_alloc, World.size_setCell, World.size_drew, size_drewN]; omega)); have q5_cm_0_0 := (bcell b_cm).2 (bw) 0 (by first | omega | (simp only [World.size_alloc, World.size_setCell, World.size_drew, size_drewN]; omega)); have q4_cm_0_1 := (bcell b_cm).1 (bw) 1 (by first | omega | (simp only [World.size_alloc, World.size_setCell, World.size_drew, size_drewN]; omega)); have q5_cm_0_1 := (bcell b_cm).2 (bw) 1 (by first | omega | (simp only [World.size_alloc, World.size_setCell, World.size_drew, size_drewN]; omega)))); (try (have q1_cm_1 : bx < w_cm.heap.size := (by omega); have q2_cm_1 := Nat.le_of_lt q1_cm_1; have q3_cm_1 := Nat.ne_of_lt q1_cm_1; have q6_cm_1 := Nat.ne_of_gt q1_cm_1; have q4_cm_1_0 := (bcell b_cm).1 (bx) 0 (by first | omega | (simp only [World.size_alloc, World.size_setCell, World.size_drew, size_drewN]; omega)); have q5_cm_1_0 := (bcell b_cm).2 (bx) 0 (by first | omega | (simp only [World.size_alloc, World.size_setCell, World.size_drew, size_drewN]; omega)); have q4_cm_1_1 := (bcell b_cm).1 (bx) 1 (by first | omega | (simp only [World.size_alloc, World.size_setCell, World.size_drew, size_drewN]; omega)); have q5_cm_1_1 := (bcell b_cm).2 (bx) 1 (by first | omega | (simp only [World.size_alloc, World.size_setCell, World.size_drew, size_drewN]; omega)))))))
          refine ⟨⟨i + 1, !z, G2, by omega, by go_num, rfl, by (repeat' (first | (with_reducible assumption) | (with_reducible exact Two.own (by with_reducible assumption)) | (with_reducible refine Two.set ?_ _ _) | (with_reducible refine Own2.set ?_ _ _) | (with_reducible refine Two.drew ?_) | (with_reducible refine Two.drewN ?_ _) | (with_reducible refine Own2.drew ?_) | (with_reducible refine Own2.drewN ?_ _) | (with_reducible refine Two.new ?_; simp only [World.size_alloc, World.size_setCell, World.size_drew, size_drewN]; done) | (with_reducible refine Own2.new ?_; simp only [World.size_alloc, World.size_setCell, World.size_drew, size_drewN]; done) | (with_reducible refine Two.alloc ?_ _) | (with_reducible refine Own2.alloc ?_ _) | (with_reducible refine Two.far ?_ ?_ _ _) | (with_reducible refine Own2.far ?_ ?_ _ _) | (with_reducible refine Two.via (by with_reducible assumption) ?_ ?_) | (with_reducible refine Own2.via (by with_reducible assumption) ?_ ?_) | omega | (simp only [World.size_alloc, World.size_setCell, World.size_drew, size_drewN]; omega))), by (repeat' (first | (with_reducible assumption) | (with_reducible exact Two.own (by with_reducible assumption)) | (with_reducible refine Two.set ?_ _ _) | (with_reducible refine Own2.set ?_ _ _) | (with_reducible refine Two.drew ?_) | (with_reducible refine Two.drewN ?_ _) | (with_reducible refine Own2.drew ?_) | (with_reducible refine Own2.drewN ?_ _) | (with_reducible refine Two.new ?_; simp only [World.size_alloc, World.size_setCell, World.size_drew, size_drewN]; done) | (with_reducible refine Own2.new ?_; simp only [World.size_alloc, World.size_setCell, World.size_drew, size_drewN]; done) | (with_reducible refine Two.alloc ?_ _) | (with_reducible refine Own2.alloc ?_ _) | (with_reducible refine Two.far ?_ ?_ _ _) | (with_reducible refine Own2.far ?_ ?_ _ _) | (with_reducible refine Two.via (by with_reducible assumption) ?_ ?_) | (with_reducible refine Own2.via (by with_reducible assumption) ?_ ?_) | omega | (simp only [World.size_alloc, World.size_setCell, World.size_drew, size_drewN]; omega))), by (repeat' (first | (with_reducible exact Below.refl _ _) | (with_reducible assumption) | (with_reducible refine Below.alloc ?_ ?_ _) | (with_reducible refine Below.drew ?_) | (with_reducible refine below_drewN ?_ _) | (with_reducible refine Below.setCell ?_ ?_ _) | (with_reducible refine below_via (by with_reducible assumption) ?_ ?_) | omega | (simp only [World.size_alloc, World.size_setCell, World.size_drew, size_drewN]; omega) | (simp only [World.size_alloc, World.size_setCell, World.size_drew, size_drewN] at *; omega))), ?_⟩, by first | (simp [intOf]; done) | (simp [intOf]; omega)⟩
          exact ⟨fun h => hn.out.1 (by cases z <;> simp_all), fun h => hn.out.2 (by cases z <;> simp_all)⟩
      · have hin' : i = n := by omega
        subst hin'
        have hok : prodOk p r i i = true := by unfold prodOk; rw [hin]; simp
        have hE0 : E = G := by rw [← hE.out, hG]; unfold prodE; rw [hok]; rfl
        have her0 : er = .nilIface := by rw [← her.out]; unfold errV; rw [hok]; rfl
        subst hE0 her0
        have q1 : ∀ w : World, (Op.equalIn 10000 27 (.agg #[.int .u64 (E.1.val : Nat), .int .u64 (E.2.val : Nat)]) (.agg #[.int .u64 (E.1.val : Nat), .int .u64 (E.2.val : Nat)])).run Try.prog w = .ok true w := fun w => by rw [equal_E]; simp
        have ⟨d1, d2, d3, d4, d5⟩ := te
        have ⟨e1, e2, e3, e4, e5⟩ := tw
        clear hE her hok hI hin hG
        go_wp2
        all_goals
          go_ret
          exact ⟨rfl, by (repeat' (first | (with_reducible exact Below.refl _ _) | (with_reducible assumption) | (with_reducible refine Below.alloc ?_ ?_ _) | (with_reducible refine Below.drew ?_) | (with_reducible refine below_drewN ?_ _) | (with_reducible refine Below.setCell ?_ ?_ _) | (with_reducible refine below_via (by with_reducible assumption) ?_ ?_) | omega | (simp only [World.size_alloc, World.size_setCell, World.size_drew, size_drewN]; omega) | (simp only [World.size_alloc, World.size_setCell, World.size_drew, size_drewN] at *; omega)))⟩

theorem multiplies_walk (a q : Option Addr) (n m c d : Nat) (p r : Nat → P3) (vp : ∀ i, i < n → P3w (p i)) (vr : ∀ i, i < m → P3w (r i)) (w : World) (ha : PtsAt w a n p) (hq : PtsAt w q m r) :
    Calls Try.prog 4 #[.slice a n c, .slice q m d] w fun e w' => e = .returned (.bool true) ∧ Below w.heap.size w w' := by
  by_cases h : 6 < n ∨ 6 < m
  · exact multiplies_big a q n m c d h w upW
  · by_cases e : n = m
    · subst e
      exact multiplies_core a q n c d (by omega) p r vp vr w ha hq
    · exact multiplies_len a q n m c d (by omega) (by omega) e w
theorem pairMultiplies_walk (a0 : Option Addr) (len0 cap0 : Nat) (z0 : Nat → P3) (a1 : Option Addr) (len1 cap1 : Nat) (z1 : Nat → P3) (w : World) (w0 : PtsAt w a0 len0 z0) (u0 : ∀ i, i < len0 → P3w (z0 i)) (w1 : PtsAt w a1 len1 z1) (u1 : ∀ i, i < len1 → P3w (z1 i)) :
    Calls Try.prog 4 #[.slice a0 len0 cap0, .slice a1 len1 cap1] w fun e w' => e = .returned (.bool true) ∧ Below w.heap.size w w' :=
  multiplies_walk a0 a1 len0 len1 cap0 cap1 z0 z1 u0 u1 w w0 w1
end Go.Proofs.Ytlimcjpnendcdaa
