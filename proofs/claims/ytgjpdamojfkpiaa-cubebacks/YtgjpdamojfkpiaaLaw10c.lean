/-
  The walk of layer 10's own statement: two lists with one hash tell two pairs with one, over what package cube's calls answer.
-/
import Derived.Test.YtgjpdamojfkpiaaUp10
import Derived.Test.YtgjpdamojfkpiaaWds
namespace Go.Proofs.Ytgjpdamojfkpiaa
open Go.RowKit Go.Proofs
set_option linter.unusedVariables false
set_option linter.unusedSimpArgs false
attribute [local go_sem ↓] Go.wp_at_zero Go.wp_at_succ
attribute [local irreducible] Ob.twoG
theorem cpairs_out (a b : Option Addr) (m c n d : Nat) (h : 100 < m ∨ (m ≤ 100 ∧ 100 < n)) (w : World)
   (cu : ∀ w, Calls Try.prog 9 #[] w fun e w' => e = .returned (.bool true) ∧ Below w.heap.size w w') :
    Calls Try.prog 7 #[.slice a m c, .slice b n d] w fun e w' => e = .returned (.bool true) ∧ Below w.heap.size w w' := by
  rcases h with h | ⟨h, h2⟩
  · have h1 : (100 : Int) < (m : Int) := by omega
    clear h
    go_enter Try.func7, Try.ntmps7
    go_wp2_with (first | (go_at_call 9; first | (with_reducible refine (cu _).mono ?_; rintro e w_cu ⟨rfl, b_cu⟩; have z_cu := b_cu.size; (try simp only [szs] at z_cu))))
    go_ret
    exact ⟨rfl, by (repeat' (first | (with_reducible first | exact Below.refl _ _ | assumption | refine Below.alloc ?_ ?_ _ | refine Below.drew ?_ | refine below_drewN ?_ _ | refine Below.setCell ?_ ?_ _ | refine below_via (by with_reducible assumption) ?_ ?_) | omega | (simp only [szs]; omega) | (simp only [szs] at *; omega)))⟩
  · have h1 : ¬ (100 : Int) < (m : Int) := by omega
    have h3 : (100 : Int) < (n : Int) := by omega
    clear h h2
    go_enter Try.func7, Try.ntmps7
    go_wp2_with (first | (go_at_call 9; first | (with_reducible refine (cu _).mono ?_; rintro e w_cu ⟨rfl, b_cu⟩; have z_cu := b_cu.size; (try simp only [szs] at z_cu))))
    go_ret
    exact ⟨rfl, by (repeat' (first | (with_reducible first | exact Below.refl _ _ | assumption | refine Below.alloc ?_ ?_ _ | refine Below.drew ?_ | refine below_drewN ?_ _ | refine Below.setCell ?_ ?_ _ | refine below_via (by with_reducible assumption) ?_ ?_) | omega | (simp only [szs]; omega) | (simp only [szs] at *; omega)))⟩
set_option maxHeartbeats 2000000 in
theorem cpairs_none (a b : Option Addr) (m c n d : Nat) (hm : m ≤ 100) (hn : n ≤ 100) (w : World)
   (cu : ∀ w, Calls Try.prog 9 #[] w fun e w' => e = .returned (.bool true) ∧ Below w.heap.size w w')
   (cc : ∀ W, Below w.heap.size w W → Calls Try.prog 17 #[.slice a m c, .slice b n d] W fun e w' => e = .returned (.tuple #[.int .u64 0, .int .u64 0, .int .u64 0, .int .u64 0, .iface 34 (.int .i64 1)]) ∧ Below W.heap.size W w') :
    Calls Try.prog 7 #[.slice a m c, .slice b n d] w fun e w' => e = .returned (.bool true) ∧ Below w.heap.size w w' := by
  have h1 : ¬ (100 : Int) < (m : Int) := by omega
  have h2 : ¬ (100 : Int) < (n : Int) := by omega
  clear hm hn
  go_enter Try.func7, Try.ntmps7
  go_wp2_with (first | (first | (go_at_call 9; first | (with_reducible refine (cu _).mono ?_; rintro e w_cu ⟨rfl, b_cu⟩; have z_cu := b_cu.size; (try simp only [szs] at z_cu)))) | (go_at_call 17; (with_reducible refine (cc _ b_cu).mono ?_); rintro e w2 ⟨rfl, b2⟩; have z2 := b2.size))
  go_ret
  exact ⟨rfl, by (repeat' (first | (with_reducible first | exact Below.refl _ _ | assumption | refine Below.alloc ?_ ?_ _ | refine Below.drew ?_ | refine below_drewN ?_ _ | refine Below.setCell ?_ ?_ _ | refine below_via (by with_reducible assumption) ?_ ?_) | omega | (simp only [szs]; omega) | (simp only [szs] at *; omega)))⟩
set_option maxHeartbeats 4000000 in
theorem cpairs_some (a b : Option Addr) (m c n d : Nat) (hm : m ≤ 100) (hn : n ≤ 100) (v0 v1 v2 v3 r : Int) (hne : v0 ≠ v2 ∨ (v0 = v2 ∧ v1 ≠ v3)) (w : World)
   (cu : ∀ w, Calls Try.prog 9 #[] w fun e w' => e = .returned (.bool true) ∧ Below w.heap.size w w')
   (cc : ∀ W, Below w.heap.size w W → Calls Try.prog 17 #[.slice a m c, .slice b n d] W fun e w' => e = .returned (.tuple #[.int .u64 v0, .int .u64 v1, .int .u64 v2, .int .u64 v3, .nilIface]) ∧ Below W.heap.size W w')
   (c1 : ∀ w, Calls Try.prog 13 #[.int .u64 v0, .int .u64 v1] w fun e w' => e = .returned (.int .u64 r) ∧ Below w.heap.size w w')
   (c2 : ∀ w, Calls Try.prog 13 #[.int .u64 v2, .int .u64 v3] w fun e w' => e = .returned (.int .u64 r) ∧ Below w.heap.size w w') :
    Calls Try.prog 7 #[.slice a m c, .slice b n d] w fun e w' => e = .returned (.bool true) ∧ Below w.heap.size w w' := by
  have h1 : ¬ (100 : Int) < (m : Int) := by omega
  have h2 : ¬ (100 : Int) < (n : Int) := by omega
  clear hm hn
  rcases hne with h | ⟨rfl, h⟩
  · have h3 : (v0 == v2) = false := by rw [beq_eq_false_iff_ne]; exact h
    have h4 : (v0 != v2) = true := by rw [bne_iff_ne]; exact h
    clear h
    go_enter Try.func7, Try.ntmps7
    go_wp2_with (first | (first | (go_at_call 9; first | (with_reducible refine (cu _).mono ?_; rintro e w_cu ⟨rfl, b_cu⟩; have z_cu := b_cu.size; (try simp only [szs] at z_cu))) | (go_at_call 13; first | (with_reducible refine (c1 _).mono ?_; rintro e w_c1 ⟨rfl, b_c1⟩; have z_c1 := b_c1.size; (try simp only [szs] at z_c1)) | (with_reducible refine (c2 _).mono ?_; rintro e w_c2 ⟨rfl, b_c2⟩; have z_c2 := b_c2.size; (try simp only [szs] at z_c2)))) | (go_at_call 17; (with_reducible refine (cc _ b_cu).mono ?_); rintro e w2 ⟨rfl, b2⟩; have z2 := b2.size))
    go_ret
    exact ⟨rfl, by (repeat' (first | (with_reducible first | exact Below.refl _ _ | assumption | refine Below.alloc ?_ ?_ _ | refine Below.drew ?_ | refine below_drewN ?_ _ | refine Below.setCell ?_ ?_ _ | refine below_via (by with_reducible assumption) ?_ ?_) | omega | (simp only [szs]; omega) | (simp only [szs] at *; omega)))⟩
  · have h3 : (v1 == v3) = false := by rw [beq_eq_false_iff_ne]; exact h
    have h4 : (v1 != v3) = true := by rw [bne_iff_ne]; exact h
    clear h
    go_enter Try.func7, Try.ntmps7
    go_wp2_with (first | (first | (go_at_call 9; first | (with_reducible refine (cu _).mono ?_; rintro e w_cu ⟨rfl, b_cu⟩; have z_cu := b_cu.size; (try simp only [szs] at z_cu))) | (go_at_call 13; first | (with_reducible refine (c1 _).mono ?_; rintro e w_c1 ⟨rfl, b_c1⟩; have z_c1 := b_c1.size; (try simp only [szs] at z_c1)) | (with_reducible refine (c2 _).mono ?_; rintro e w_c2 ⟨rfl, b_c2⟩; have z_c2 := b_c2.size; (try simp only [szs] at z_c2)))) | (go_at_call 17; (with_reducible refine (cc _ b_cu).mono ?_); rintro e w2 ⟨rfl, b2⟩; have z2 := b2.size))
    go_ret
    exact ⟨rfl, by (repeat' (first | (with_reducible first | exact Below.refl _ _ | assumption | refine Below.alloc ?_ ?_ _ | refine Below.drew ?_ | refine below_drewN ?_ _ | refine Below.setCell ?_ ?_ _ | refine below_via (by with_reducible assumption) ?_ ?_) | omega | (simp only [szs]; omega) | (simp only [szs] at *; omega)))⟩
theorem cpairs_of (a b : Option Addr) (m c n d : Nat) (u v : Nat → Nat) (v0 v1 v2 v3 : Int) (er : Value) (w : World) (hC : ClashIs m n u v v0 v1 v2 v3 er)
   (cu : ∀ w, Calls Try.prog 9 #[] w fun e w' => e = .returned (.bool true) ∧ Below w.heap.size w w')
   (cc : ∀ W, Below w.heap.size w W → Calls Try.prog 17 #[.slice a m c, .slice b n d] W fun e w' => e = .returned (.tuple #[.int .u64 v0, .int .u64 v1, .int .u64 v2, .int .u64 v3, er]) ∧ Below W.heap.size W w')
   (c2 : ∀ (a b : Nat), a < 18446744073709551616 → b < 18446744073709551616 → Ans 13 #[.int .u64 a, .int .u64 b] (Ob.twoG (Ob.toG a) (Ob.toG b)).val) :
    Calls Try.prog 7 #[.slice a m c, .slice b n d] w fun e w' => e = .returned (.bool true) ∧ Below w.heap.size w w' := by
  by_cases h1 : 100 < m
  · exact cpairs_out a b m c n d (Or.inl h1) w cu
  by_cases h2 : 100 < n
  · exact cpairs_out a b m c n d (Or.inr ⟨by omega, h2⟩) w cu
  rcases hC with ⟨_, rfl, rfl, rfl, rfl, rfl⟩ | ⟨rfl, heq, i, hi, rfl, rfl, rfl, rfl, rfl⟩
  · exact cpairs_none a b m c n d (by omega) (by omega) w cu cc
  · obtain ⟨h3, h4, _⟩ := clashAt_some m u v m i hi
    have e1 := c2 (hdN m u i) (Ob.toG (u i)).val (hdN_lt _ _ _) (G_lt _)
    have e2 := c2 (hdN m v i) (Ob.toG (v i)).val (hdN_lt _ _ _) (G_lt _)
    rw [hdN_two, clash_next hi heq] at e1
    rw [hdN_two] at e2
    refine cpairs_some a b m c m d (by omega) (by omega) _ _ _ _ _ ?_ w cu cc e1 e2
    by_cases hg : hdN m u i = hdN m v i
    · refine Or.inr ⟨by rw [hg], fun e => h4 ⟨hg, Fin.ext (by omega)⟩⟩
    · exact Or.inl (by omega)
end Go.Proofs.Ytgjpdamojfkpiaa
