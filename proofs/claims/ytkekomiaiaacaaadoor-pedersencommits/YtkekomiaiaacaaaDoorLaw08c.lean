/-
  The walk of layer 8's statement on commitments.
-/
import Derived.Test.YtkekomiaiaacaaaDoorLaw08b
namespace Go.Proofs.YtkekomiaiaacaaaDoor
open Go.RowKit Go.Proofs
set_option linter.unusedVariables false
set_option linter.unusedSimpArgs false
attribute [local go_sem ↓] Go.wp_at_zero Go.wp_at_succ
attribute [local irreducible] Ob.gmul Ob.gadd baseP Ob.gcom
theorem equal_same8 (w : World) (x y : Int) : (Op.equalIn 10000 25 (.agg #[.int .u64 x, .int .u64 y]) (.agg #[.int .u64 x, .int .u64 y])).run Tryd.prog w = .ok true w := by
  rw [equal_Ed]; simp
set_option maxRecDepth 4000 in
set_option maxHeartbeats 8000000 in
theorem commits_long (a : Option Addr) (n c : Nat) (hn : 16 < n) (x p q : Int) (w : World)
   (cu : Calls Tryd.prog 8 #[] (w.alloc (.cells #[.int .u64 p, .int .u64 q] 25)) fun e w' => e = .returned (.bool true) ∧ Below (w.heap.size + 1) (w.alloc (.cells #[.int .u64 p, .int .u64 q] 25)) w') :
    Calls Tryd.prog 4 #[.slice a n c, .int .u64 x, .agg #[.int .u64 p, .int .u64 q]] w fun e w' => e = .returned (.bool true) ∧ Below w.heap.size w w' := by
  have h1 : (5 : Int) < (n : Int) := by omega
  have h2 : ¬ (n : Int) ≤ 16 := by omega
  have h3 : (16 : Int) < (n : Int) := by omega
  have cc := fun w => pcommit_long a n c hn x w
  have co := fun w => popens_long p q a n c hn x w
  have ec := fun w => eql_code w 5 5
  have he := fun w => equal_same8 w 0 0
  clear hn
  go_enter Tryd.func4, Tryd.ntmps4
  go_wp2_with (first | (go_at_call 8; (with_reducible refine cu.mono ?_); rintro e w_cu ⟨rfl, b_cu⟩; have z_cu := b_cu.size; (try simp only [szs] at z_cu); have q_cu := own2 b_cu w.heap.size (by omega) (by simp only [szs]; omega)) | (first | (go_at_call 12; first | (with_reducible refine (cc _).mono ?_; rintro e w_cc ⟨rfl, b_cc⟩; have z_cc := b_cc.size; (try simp only [szs] at z_cc); (try (have q_cc_0 := own2 b_cc (w.heap.size) (by first | omega | (simp only [szs]; omega)))); (try (have q_cc_1 := own2 b_cc (w_cu.heap.size) (by first | omega | (simp only [szs]; omega)))))) | (go_at_call 13; first | (with_reducible refine (co _).mono ?_; rintro e w_co ⟨rfl, b_co⟩; have z_co := b_co.size; (try simp only [szs] at z_co); (try (have q_co_0 := own2 b_co (w.heap.size) (by first | omega | (simp only [szs]; omega)))); (try (have q_co_1 := own2 b_co (w_cu.heap.size) (by first | omega | (simp only [szs]; omega))))))))
  go_ret
  exact ⟨rfl, by (repeat' (first | (with_reducible first | exact Below.refl _ _ | assumption | refine Below.alloc ?_ ?_ _ | refine Below.drew ?_ | refine below_drewN ?_ _ | refine Below.setCell ?_ ?_ _ | refine below_via (by with_reducible assumption) ?_ ?_) | omega | (simp only [szs]; omega) | (simp only [szs] at *; omega)))⟩
set_option maxRecDepth 4000 in
set_option maxHeartbeats 8000000 in
theorem commits_core (a : Option Addr) (m c n : Nat) (hm : (m ≤ 5 ∧ n = m) ∨ (5 < m ∧ m ≤ 16 ∧ n = 5 ∧ ∃ b off, a = some ⟨b, off, none⟩)) (hc : m ≤ c) (x p q tx ty : Int) (s : Bool) (w : World)
   (cu : Calls Tryd.prog 8 #[] (w.alloc (.cells #[.int .u64 p, .int .u64 q] 25)) fun e w' => e = .returned (.bool true) ∧ Below (w.heap.size + 1) (w.alloc (.cells #[.int .u64 p, .int .u64 q] 25)) w')
   (cc : ∀ W, Below w.heap.size w W → Calls Tryd.prog 12 #[.slice a n c, .int .u64 x] W fun e w' => e = .returned (.tuple #[.agg #[.int .u64 tx, .int .u64 ty], .nilIface]) ∧ Below W.heap.size W w')
   (cg : ∀ W, Below w.heap.size w W → Calls Tryd.prog 14 #[.slice a n c, .int .u64 x] W fun e w' => e = .returned (.tuple #[.agg #[.int .u64 tx, .int .u64 ty], .bool true]) ∧ Below W.heap.size W w')
   (co : ∀ W, Below w.heap.size w W → Calls Tryd.prog 13 #[.agg #[.int .u64 tx, .int .u64 ty], .slice a n c, .int .u64 x] W fun e w' => e = .returned (.bool true) ∧ Below W.heap.size W w')
   (cp : ∀ W, Below w.heap.size w W → Calls Tryd.prog 13 #[.agg #[.int .u64 p, .int .u64 q], .slice a n c, .int .u64 x] W fun e w' => e = .returned (.bool s) ∧ Below W.heap.size W w')
   (he : ∀ w, (Op.equalIn 10000 25 (.agg #[.int .u64 p, .int .u64 q]) (.agg #[.int .u64 tx, .int .u64 ty])).run Tryd.prog w = .ok s w) :
    Calls Tryd.prog 4 #[.slice a m c, .int .u64 x, .agg #[.int .u64 p, .int .u64 q]] w fun e w' => e = .returned (.bool true) ∧ Below w.heap.size w w' := by
  have he2 := fun w => equal_same8 w tx ty
  rcases hm with ⟨hm, rfl⟩ | ⟨h5, h16, rfl, b, off, rfl⟩
  case' inl =>
    have g1 : ¬ (5 : Int) < (n : Int) := by omega
    have g2 : ¬ (16 : Int) < (n : Int) := by omega
    clear hm
  case' inr =>
    have g1 : (5 : Int) < (m : Int) := by omega
    have g2 : (m : Int) ≤ 16 := by omega
    have g3 : (5 : Int) ≤ (c : Int) := by omega
    have g4 : (5 : Int) ≤ (m : Int) := by omega
    clear h5 h16
  all_goals
    go_enter Tryd.func4, Tryd.ntmps4
    go_upto_region 2 with (go_at_call 8; (with_reducible refine cu.mono ?_); rintro e w1 ⟨rfl, b1⟩; have z1 := b1.size; (try simp only [szs] at z1))
    have t1 : Two w1 w.heap.size (.int .u64 p) (.int .u64 q) := by (repeat' (first | (with_reducible first | assumption | exact Two.own (by with_reducible assumption) | refine Two.set ?_ _ _ | refine Own2.set ?_ _ _ | refine Two.drew ?_ | refine Two.drewN ?_ _ | refine Own2.drew ?_ | refine Own2.drewN ?_ _ | (refine Two.new ?_; simp only [szs]; done) | (refine Own2.new ?_; simp only [szs]; done) | refine Two.alloc ?_ _ | refine Own2.alloc ?_ _ | refine Two.far ?_ ?_ _ _ | refine Own2.far ?_ ?_ _ _ | refine Two.via (by with_reducible assumption) ?_ ?_ | refine Own2.via (by with_reducible assumption) ?_ ?_) | omega | (simp only [szs]; omega)))
    have hB1 : Below w.heap.size w w1 := by (repeat' (first | (with_reducible first | exact Below.refl _ _ | assumption | refine Below.alloc ?_ ?_ _ | refine Below.drew ?_ | refine below_drewN ?_ _ | refine Below.setCell ?_ ?_ _ | refine below_via (by with_reducible assumption) ?_ ?_) | omega | (simp only [szs]; omega) | (simp only [szs] at *; omega)))
    clear b1 z1 cu
    go_upto_region 5 with (go_at_call 12; (with_reducible refine (cc _ hB1).mono ?_); rintro e w2 ⟨rfl, b2⟩)
    have z1 := hB1.size
    have z2 := b2.size
    have l1 := t1.lt
    have t2 : Two (w2.alloc (.cells #[.int .u64 tx, .int .u64 ty] 25)) w.heap.size (.int .u64 p) (.int .u64 q) := by (repeat' (first | (with_reducible first | assumption | exact Two.own (by with_reducible assumption) | refine Two.set ?_ _ _ | refine Own2.set ?_ _ _ | refine Two.drew ?_ | refine Two.drewN ?_ _ | refine Own2.drew ?_ | refine Own2.drewN ?_ _ | (refine Two.new ?_; simp only [szs]; done) | (refine Own2.new ?_; simp only [szs]; done) | refine Two.alloc ?_ _ | refine Own2.alloc ?_ _ | refine Two.far ?_ ?_ _ _ | refine Own2.far ?_ ?_ _ _ | refine Two.via (by with_reducible assumption) ?_ ?_ | refine Own2.via (by with_reducible assumption) ?_ ?_) | omega | (simp only [szs]; omega)))
    have t3 : Two (w2.alloc (.cells #[.int .u64 tx, .int .u64 ty] 25)) w2.heap.size (.int .u64 tx) (.int .u64 ty) := by (repeat' (first | (with_reducible first | assumption | exact Two.own (by with_reducible assumption) | refine Two.set ?_ _ _ | refine Own2.set ?_ _ _ | refine Two.drew ?_ | refine Two.drewN ?_ _ | refine Own2.drew ?_ | refine Own2.drewN ?_ _ | (refine Two.new ?_; simp only [szs]; done) | (refine Own2.new ?_; simp only [szs]; done) | refine Two.alloc ?_ _ | refine Own2.alloc ?_ _ | refine Two.far ?_ ?_ _ _ | refine Own2.far ?_ ?_ _ _ | refine Two.via (by with_reducible assumption) ?_ ?_ | refine Own2.via (by with_reducible assumption) ?_ ?_) | omega | (simp only [szs]; omega)))
    have hB2 : Below w.heap.size w (w2.alloc (.cells #[.int .u64 tx, .int .u64 ty] 25)) := by (repeat' (first | (with_reducible first | exact Below.refl _ _ | assumption | refine Below.alloc ?_ ?_ _ | refine Below.drew ?_ | refine below_drewN ?_ _ | refine Below.setCell ?_ ?_ _ | refine below_via (by with_reducible assumption) ?_ ?_) | omega | (simp only [szs]; omega) | (simp only [szs] at *; omega)))
    have n1 : w.heap.size ≠ w2.heap.size := by omega
    have n2 : w2.heap.size ≠ w.heap.size := by omega
    generalize (w2.alloc (.cells #[.int .u64 tx, .int .u64 ty] 25)) = V at *
    generalize w2.heap.size = bx at *
    clear b2 z1 z2 l1 t1 hB1 cc
    go_upto_region 8 with (go_at_call 14; (with_reducible refine (cg _ hB2).mono ?_); rintro e w3 ⟨rfl, b3⟩)
    have z1 := hB2.size
    have z2 := b3.size
    have l2 := t2.lt
    have l3 := t3.lt
    have t4 : Two (w3.alloc (.cells #[.int .u64 tx, .int .u64 ty] 25)) w.heap.size (.int .u64 p) (.int .u64 q) := by (repeat' (first | (with_reducible first | assumption | exact Two.own (by with_reducible assumption) | refine Two.set ?_ _ _ | refine Own2.set ?_ _ _ | refine Two.drew ?_ | refine Two.drewN ?_ _ | refine Own2.drew ?_ | refine Own2.drewN ?_ _ | (refine Two.new ?_; simp only [szs]; done) | (refine Own2.new ?_; simp only [szs]; done) | refine Two.alloc ?_ _ | refine Own2.alloc ?_ _ | refine Two.far ?_ ?_ _ _ | refine Own2.far ?_ ?_ _ _ | refine Two.via (by with_reducible assumption) ?_ ?_ | refine Own2.via (by with_reducible assumption) ?_ ?_) | omega | (simp only [szs]; omega)))
    have t5 : Two (w3.alloc (.cells #[.int .u64 tx, .int .u64 ty] 25)) bx (.int .u64 tx) (.int .u64 ty) := by (repeat' (first | (with_reducible first | assumption | exact Two.own (by with_reducible assumption) | refine Two.set ?_ _ _ | refine Own2.set ?_ _ _ | refine Two.drew ?_ | refine Two.drewN ?_ _ | refine Own2.drew ?_ | refine Own2.drewN ?_ _ | (refine Two.new ?_; simp only [szs]; done) | (refine Own2.new ?_; simp only [szs]; done) | refine Two.alloc ?_ _ | refine Own2.alloc ?_ _ | refine Two.far ?_ ?_ _ _ | refine Own2.far ?_ ?_ _ _ | refine Two.via (by with_reducible assumption) ?_ ?_ | refine Own2.via (by with_reducible assumption) ?_ ?_) | omega | (simp only [szs]; omega)))
    have t6 : Two (w3.alloc (.cells #[.int .u64 tx, .int .u64 ty] 25)) w3.heap.size (.int .u64 tx) (.int .u64 ty) := by (repeat' (first | (with_reducible first | assumption | exact Two.own (by with_reducible assumption) | refine Two.set ?_ _ _ | refine Own2.set ?_ _ _ | refine Two.drew ?_ | refine Two.drewN ?_ _ | refine Own2.drew ?_ | refine Own2.drewN ?_ _ | (refine Two.new ?_; simp only [szs]; done) | (refine Own2.new ?_; simp only [szs]; done) | refine Two.alloc ?_ _ | refine Own2.alloc ?_ _ | refine Two.far ?_ ?_ _ _ | refine Own2.far ?_ ?_ _ _ | refine Two.via (by with_reducible assumption) ?_ ?_ | refine Own2.via (by with_reducible assumption) ?_ ?_) | omega | (simp only [szs]; omega)))
    have hB3 : Below w.heap.size w (w3.alloc (.cells #[.int .u64 tx, .int .u64 ty] 25)) := by (repeat' (first | (with_reducible first | exact Below.refl _ _ | assumption | refine Below.alloc ?_ ?_ _ | refine Below.drew ?_ | refine below_drewN ?_ _ | refine Below.setCell ?_ ?_ _ | refine below_via (by with_reducible assumption) ?_ ?_) | omega | (simp only [szs]; omega) | (simp only [szs] at *; omega)))
    have n3 : w.heap.size ≠ w3.heap.size := by omega
    have n4 : w3.heap.size ≠ w.heap.size := by omega
    have n5 : bx ≠ w3.heap.size := by omega
    have n6 : w3.heap.size ≠ bx := by omega
    generalize (w3.alloc (.cells #[.int .u64 tx, .int .u64 ty] 25)) = V3 at *
    generalize w3.heap.size = by_ at *
    clear b3 z1 z2 l2 l3 t2 t3 hB2 cg
    go_wp2
    have ⟨d1, d2, d3, d4, d5⟩ := t4
    have ⟨e1, e2, e3, e4, e5⟩ := t5
    have ⟨f1, f2, f3, f4, f5⟩ := t6
    have zB := hB3.size
    go_region_held3 (fun w' => w'.cell? ⟨w.heap.size, 0, none⟩ = some (.int .u64 p) ∧ w'.cell? ⟨w.heap.size, 1, none⟩ = some (.int .u64 q) ∧ w'.cell? ⟨bx, 0, none⟩ = some (.int .u64 tx) ∧ w'.cell? ⟨bx, 1, none⟩ = some (.int .u64 ty) ∧ w'.cell? ⟨by_, 0, none⟩ = some (.int .u64 tx) ∧ w'.cell? ⟨by_, 1, none⟩ = some (.int .u64 ty)) (go_keep)
      ((go_at_call 13; first
        | ((with_reducible refine (co _ (by (repeat' (first | (with_reducible first | exact Below.refl _ _ | assumption | refine Below.alloc ?_ ?_ _ | refine Below.drew ?_ | refine below_drewN ?_ _ | refine Below.setCell ?_ ?_ _ | refine below_via (by with_reducible assumption) ?_ ?_) | omega | (simp only [szs]; omega) | (simp only [szs] at *; omega))))).mono ?_); rintro e w_co ⟨rfl, b_co⟩; have z_co := b_co.size; (try simp only [szs] at z_co); (try (have q_co0 := own2 b_co (w.heap.size) (by first | omega | (simp only [szs]; omega)))); (try (have q_co1 := own2 b_co bx (by first | omega | (simp only [szs]; omega)))); (try (have q_co2 := own2 b_co by_ (by first | omega | (simp only [szs]; omega)))))
        | ((with_reducible refine (cp _ (by (repeat' (first | (with_reducible first | exact Below.refl _ _ | assumption | refine Below.alloc ?_ ?_ _ | refine Below.drew ?_ | refine below_drewN ?_ _ | refine Below.setCell ?_ ?_ _ | refine below_via (by with_reducible assumption) ?_ ?_) | omega | (simp only [szs]; omega) | (simp only [szs] at *; omega))))).mono ?_); rintro e w_cp ⟨rfl, b_cp⟩; have z_cp := b_cp.size; (try simp only [szs] at z_cp); (try (have q_cp0 := own2 b_cp (w.heap.size) (by first | omega | (simp only [szs]; omega)))); (try (have q_cp1 := own2 b_cp bx (by first | omega | (simp only [szs]; omega)))); (try (have q_cp2 := own2 b_cp by_ (by first | omega | (simp only [szs]; omega)))))))
    go_wp2
    go_ret
    exact ⟨rfl, by (repeat' (first | (with_reducible first | exact Below.refl _ _ | assumption | refine Below.alloc ?_ ?_ _ | refine Below.drew ?_ | refine below_drewN ?_ _ | refine Below.setCell ?_ ?_ _ | refine below_via (by with_reducible assumption) ?_ ?_) | omega | (simp only [szs]; omega) | (simp only [szs] at *; omega)))⟩
theorem isP_swap (u : Ob.Ep) (p q : Int) : (p == ((u.1.val : Nat) : Int) && q == ((u.2.val : Nat) : Int)) = isP u p q := by
  unfold isP
  rw [Bool.beq_comm (a := p), Bool.beq_comm (a := q)]
theorem pedersenCommits_walk (a0 : Option Addr) (len0 cap0 : Nat) (z0 : List Int) (a1 x2 y2 : Int) (w : World) (w0 : IsRow .u64 w a0 len0 cap0 z0) (w1 : (Lit.int .u64 a1).wf = true) (wx2 : (Lit.int .u64 x2).wf = true) (wy2 : (Lit.int .u64 y2).wf = true) (hL : TabOk w ∧ Tabs w) :
    Calls Tryd.prog 4 #[.slice a0 len0 cap0, .int .u64 a1, .agg #[.int .u64 x2, .int .u64 y2]] w fun e w' => e = .returned (.bool true) ∧ Below w.heap.size w w' := by
  obtain ⟨x, rfl, hx⟩ := word_of w1
  obtain ⟨hT, hTs⟩ := hL
  obtain ⟨z, hlc, hcm, hz, hs, hno, _⟩ := srcW_of_isRow w0
  have hb : Below w.heap.size w (w.alloc (.cells #[.int .u64 x2, .int .u64 y2] 25)) := (Below.refl w.heap.size w).alloc (Nat.le_refl _) _
  have cu := up8W (w.alloc (.cells #[.int .u64 x2, .int .u64 y2] 25)) (hT.below hb hT.lt) (hTs.below hb hTs.lt)
  rw [World.size_alloc] at cu
  by_cases h16 : 16 < len0
  · exact commits_long a0 len0 cap0 h16 _ _ _ w cu
  · obtain ⟨n, hm, hn5, hnl⟩ : ∃ n, ((len0 ≤ 5 ∧ n = len0) ∨ (5 < len0 ∧ len0 ≤ 16 ∧ n = 5 ∧ ∃ b off, a0 = some ⟨b, off, none⟩)) ∧ n ≤ 5 ∧ n ≤ len0 := by
      by_cases h5 : len0 ≤ 5
      · exact ⟨len0, Or.inl ⟨h5, rfl⟩, h5, Nat.le_refl _⟩
      · rcases hs with h | ⟨b, off, e, _, _⟩
        · omega
        · exact ⟨5, Or.inr ⟨by omega, by omega, rfl, b, off, e⟩, by omega, by omega⟩
    have hs' := hs.less hnl
    have hto := fun (W : World) (h : Below w.heap.size w W) => hs'.to h (Nat.le_refl _)
    refine commits_core a0 len0 cap0 n hm hlc _ _ _ _ _ (isP (comP x z n) x2 y2) w cu
      (fun W h => pcommitW a0 n cap0 z hz hn5 x hx W (hT.below h hT.lt) (hTs.below h hTs.lt) (hto W h))
      (fun W h => gcommitW a0 n cap0 z hz hn5 x hx W (hT.below h hT.lt) (hTs.below h hTs.lt) (hto W h))
      (fun W h => ?_)
      (fun W h => popensW x2 y2 a0 n cap0 z hz hn5 x hx W (hT.below h hT.lt) (hTs.below h hTs.lt) (hto W h))
      (fun w => by rw [equal_Ed, isP_swap])
    have := popensW ((comP x z n).1.val : Nat) ((comP x z n).2.val : Nat) a0 n cap0 z hz hn5 x hx W (hT.below h hT.lt) (hTs.below h hTs.lt) (hto W h)
    rw [isP_self] at this
    exact this
end Go.Proofs.YtkekomiaiaacaaaDoor
