/-
  The walk of package cube: the two pairs that two lists tell.
-/
import Derived.Test.YtgjpdamojfkpiabCubL
namespace Go.Proofs.Ytgjpdamojfkpiab
open Go.RowKit Go.Proofs
set_option linter.unusedVariables false
set_option linter.unusedSimpArgs false
attribute [local go_sem ↓] Go.wp_at_zero Go.wp_at_succ
attribute [local irreducible] Ob.twoG
theorem uclash_apart (a b : Option Addr) (m c n d : Nat) (h : m ≠ n) (w : World) :
    Calls Try.prog 6 #[.slice a m c, .slice b n d] w fun e w' => e = .returned (.tuple #[.int .u64 0, .int .u64 0, .int .u64 0, .int .u64 0, .iface 32 (.int .i64 1)]) ∧ Below w.heap.size w w' := by
  have h1 : ((m : Int) != (n : Int)) = true := by rw [bne_iff_ne]; omega
  have h2 : ((m : Int) == (n : Int)) = false := by rw [beq_eq_false_iff_ne]; omega
  have h3 : ¬ ((m : Int) = (n : Int)) := by omega
  have h4 : ¬ (m = n) := h
  clear h
  go_enter Try.func6, Try.ntmps6
  go_wp2
  exact bodyPost_ret (v := .tuple #[.int .u64 0, .int .u64 0, .int .u64 0, .int .u64 0, .iface 32 (.int .i64 1)]) (by simp [results, Try.results6, go_sem, *]) rfl ⟨rfl, by (repeat' (first | (with_reducible first | exact Below.refl _ _ | assumption | refine Below.alloc ?_ ?_ _ | refine Below.drew ?_ | refine below_drewN ?_ _ | refine Below.setCell ?_ ?_ _ | refine below_via (by with_reducible assumption) ?_ ?_) | omega | (simp only [szs]; omega) | (simp only [szs] at *; omega)))⟩
set_option maxHeartbeats 2000000 in
theorem uclash_no (a b : Option Addr) (m c d : Nat) (A B C D : Int) (w : World)
   (c1 : ∀ W, Below w.heap.size w W → Calls Try.prog 11 #[.slice a m c, .slice b m d] W fun e w' => e = .returned (.tuple #[.agg #[.int .u64 A, .int .u64 B], .agg #[.int .u64 C, .int .u64 D], .bool false]) ∧ Below W.heap.size W w') :
    Calls Try.prog 6 #[.slice a m c, .slice b m d] w fun e w' => e = .returned (.tuple #[.int .u64 0, .int .u64 0, .int .u64 0, .int .u64 0, .iface 32 (.int .i64 1)]) ∧ Below w.heap.size w w' := by
  go_enter Try.func6, Try.ntmps6
  go_wp2_with (go_at_call 11; (with_reducible refine (c1 _ (by (repeat' (first | (with_reducible first | exact Below.refl _ _ | assumption | refine Below.alloc ?_ ?_ _ | refine Below.drew ?_ | refine below_drewN ?_ _ | refine Below.setCell ?_ ?_ _ | refine below_via (by with_reducible assumption) ?_ ?_) | omega | (simp only [szs]; omega) | (simp only [szs] at *; omega))))).mono ?_); rintro e w1 ⟨rfl, b1⟩; have z1 := b1.size)
  exact bodyPost_ret (v := .tuple #[.int .u64 0, .int .u64 0, .int .u64 0, .int .u64 0, .iface 32 (.int .i64 1)]) (by simp [results, Try.results6, go_sem, *]) rfl ⟨rfl, by (repeat' (first | (with_reducible first | exact Below.refl _ _ | assumption | refine Below.alloc ?_ ?_ _ | refine Below.drew ?_ | refine below_drewN ?_ _ | refine Below.setCell ?_ ?_ _ | refine below_via (by with_reducible assumption) ?_ ?_) | omega | (simp only [szs]; omega) | (simp only [szs] at *; omega)))⟩
set_option maxHeartbeats 4000000 in
theorem uclash_yes (a b : Option Addr) (m c d : Nat) (A B C D : Int) (w : World)
   (c1 : ∀ W, Below w.heap.size w W → Calls Try.prog 11 #[.slice a m c, .slice b m d] W fun e w' => e = .returned (.tuple #[.agg #[.int .u64 A, .int .u64 B], .agg #[.int .u64 C, .int .u64 D], .bool true]) ∧ Below W.heap.size W w') :
    Calls Try.prog 6 #[.slice a m c, .slice b m d] w fun e w' => e = .returned (.tuple #[.int .u64 A, .int .u64 B, .int .u64 C, .int .u64 D, .nilIface]) ∧ Below w.heap.size w w' := by
  go_enter Try.func6, Try.ntmps6
  go_upto_region 4 with (go_at_call 11; (with_reducible refine (c1 _ (by (repeat' (first | (with_reducible first | exact Below.refl _ _ | assumption | refine Below.alloc ?_ ?_ _ | refine Below.drew ?_ | refine below_drewN ?_ _ | refine Below.setCell ?_ ?_ _ | refine below_via (by with_reducible assumption) ?_ ?_) | omega | (simp only [szs]; omega) | (simp only [szs] at *; omega))))).mono ?_); rintro e w1 ⟨rfl, b1⟩; have z1 := b1.size)
  have hB : Below w.heap.size w ((w1.alloc (.cells #[.int .u64 A, .int .u64 B] 34)).alloc (.cells #[.int .u64 C, .int .u64 D] 34)) := by (repeat' (first | (with_reducible first | exact Below.refl _ _ | assumption | refine Below.alloc ?_ ?_ _ | refine Below.drew ?_ | refine below_drewN ?_ _ | refine Below.setCell ?_ ?_ _ | refine below_via (by with_reducible assumption) ?_ ?_) | omega | (simp only [szs]; omega) | (simp only [szs] at *; omega)))
  have t1 : Two ((w1.alloc (.cells #[.int .u64 A, .int .u64 B] 34)).alloc (.cells #[.int .u64 C, .int .u64 D] 34)) w1.heap.size (.int .u64 A) (.int .u64 B) := by (repeat' (first | (with_reducible first | assumption | exact Two.own (by with_reducible assumption) | refine Two.set ?_ _ _ | refine Own2.set ?_ _ _ | refine Two.drew ?_ | refine Two.drewN ?_ _ | refine Own2.drew ?_ | refine Own2.drewN ?_ _ | (refine Two.new ?_; simp only [szs]; done) | (refine Own2.new ?_; simp only [szs]; done) | refine Two.alloc ?_ _ | refine Own2.alloc ?_ _ | refine Two.far ?_ ?_ _ _ | refine Own2.far ?_ ?_ _ _ | refine Two.via (by with_reducible assumption) ?_ ?_ | refine Own2.via (by with_reducible assumption) ?_ ?_) | omega | (simp only [szs]; omega)))
  have t2 : Two ((w1.alloc (.cells #[.int .u64 A, .int .u64 B] 34)).alloc (.cells #[.int .u64 C, .int .u64 D] 34)) (w1.heap.size + 1) (.int .u64 C) (.int .u64 D) := by (repeat' (first | (with_reducible first | assumption | exact Two.own (by with_reducible assumption) | refine Two.set ?_ _ _ | refine Own2.set ?_ _ _ | refine Two.drew ?_ | refine Two.drewN ?_ _ | refine Own2.drew ?_ | refine Own2.drewN ?_ _ | (refine Two.new ?_; simp only [szs]; done) | (refine Own2.new ?_; simp only [szs]; done) | refine Two.alloc ?_ _ | refine Own2.alloc ?_ _ | refine Two.far ?_ ?_ _ _ | refine Own2.far ?_ ?_ _ _ | refine Two.via (by with_reducible assumption) ?_ ?_ | refine Own2.via (by with_reducible assumption) ?_ ?_) | omega | (simp only [szs]; omega)))
  generalize ((w1.alloc (.cells #[.int .u64 A, .int .u64 B] 34)).alloc (.cells #[.int .u64 C, .int .u64 D] 34)) = W at *
  generalize w1.heap.size = p at *
  have ⟨e1, e2, e3, e4, e5⟩ := t1
  have ⟨f1, f2, f3, f4, f5⟩ := t2
  go_wp2
  go_region_held3 (fun w' => w'.cell? ⟨p, 0, none⟩ = some (.int .u64 A) ∧ w'.cell? ⟨p, 1, none⟩ = some (.int .u64 B) ∧ w'.cell? ⟨p + 1, 0, none⟩ = some (.int .u64 C) ∧ w'.cell? ⟨p + 1, 1, none⟩ = some (.int .u64 D)) (go_keep) (fail)
  go_wp2
  exact bodyPost_ret (v := .tuple #[.int .u64 A, .int .u64 B, .int .u64 C, .int .u64 D, .nilIface]) (by simp [results, Try.results6, go_sem, *]) rfl ⟨rfl, by (repeat' (first | (with_reducible first | exact Below.refl _ _ | assumption | refine Below.alloc ?_ ?_ _ | refine Below.drew ?_ | refine below_drewN ?_ _ | refine Below.setCell ?_ ?_ _ | refine below_via (by with_reducible assumption) ?_ ?_) | omega | (simp only [szs]; omega) | (simp only [szs] at *; omega)))⟩
theorem uclashW (a b : Option Addr) (m c n d : Nat) (hm : m ≤ 1000000) (u v : Nat → Nat) (hu : ∀ i, u i < 18446744073709551616) (hv : ∀ i, v i < 18446744073709551616) (w : World) (ha : SrcW w.heap.size w a m u) (hb : SrcW w.heap.size w b n v) :
    ∃ v0 v1 v2 v3 er, ClashIs m n u v v0 v1 v2 v3 er ∧ ∀ W, Below w.heap.size w W → Calls Try.prog 6 #[.slice a m c, .slice b n d] W fun e w' => e = .returned (.tuple #[.int .u64 v0, .int .u64 v1, .int .u64 v2, .int .u64 v3, er]) ∧ Below W.heap.size W w' := by
  by_cases hmn : m = n
  · subst hmn
    have cl : ∀ W, Below w.heap.size w W → ∀ W', Below W.heap.size W W' → _ := fun W h W' h' => ulastW a b m c d hm u v hu hv W' ((ha.to h (Nat.le_refl _)).to h' (Nat.le_refl _)) ((hb.to h (Nat.le_refl _)).to h' (Nat.le_refl _))
    cases hcl : clashAt m u v m with
    | none =>
      rw [hcl] at cl
      exact ⟨0, 0, 0, 0, _, Or.inl ⟨fun h => h.2.2 hcl, rfl, rfl, rfl, rfl, rfl⟩, fun W h => uclash_no a b m c d _ _ _ _ W (cl W h)⟩
    | some i =>
      rw [hcl] at cl
      by_cases he : hdN m u m = hdN m v m
      · rw [decide_eq_true he] at cl
        exact ⟨_, _, _, _, _, Or.inr ⟨rfl, he, i, hcl, rfl, rfl, rfl, rfl, rfl⟩, fun W h => uclash_yes a b m c d _ _ _ _ W (cl W h)⟩
      · rw [decide_eq_false he] at cl
        exact ⟨0, 0, 0, 0, _, Or.inl ⟨fun h => he h.2.1, rfl, rfl, rfl, rfl, rfl⟩, fun W h => uclash_no a b m c d _ _ _ _ W (cl W h)⟩
  · exact ⟨0, 0, 0, 0, _, Or.inl ⟨fun h => hmn h.1, rfl, rfl, rfl, rfl, rfl⟩, fun W h => uclash_apart a b m c n d hmn W⟩
theorem clash_self (m : Nat) (u : Nat → Nat) : ∀ k, clashAt m u u k = none
  | 0 => rfl
  | k + 1 => by rw [clashAt_same ⟨rfl, rfl⟩, clash_self m u k]
theorem uclash_self (a b : Option Addr) (m c d : Nat) (hm : m ≤ 1000000) (u : Nat → Nat) (hu : ∀ i, u i < 18446744073709551616) (w : World) (ha : SrcW w.heap.size w a m u) (hb : SrcW w.heap.size w b m u) :
    Calls Try.prog 6 #[.slice a m c, .slice b m d] w fun e w' => e = .returned (.tuple #[.int .u64 0, .int .u64 0, .int .u64 0, .int .u64 0, .iface 32 (.int .i64 1)]) ∧ Below w.heap.size w w' := by
  have cl : ∀ W', Below w.heap.size w W' → _ := fun W' h' => ulastW a b m c d hm u u hu hu W' (ha.to h' (Nat.le_refl _)) (hb.to h' (Nat.le_refl _))
  rw [clash_self] at cl
  exact uclash_no a b m c d _ _ _ _ w cl
end Go.Proofs.Ytgjpdamojfkpiab
