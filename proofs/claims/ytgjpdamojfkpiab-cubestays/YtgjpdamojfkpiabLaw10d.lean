/-
  The walk of layer 10's statement that lists stay, over what package cube's calls answer.
-/
import Derived.Test.YtgjpdamojfkpiabUp10
import Derived.Test.YtgjpdamojfkpiabWdsA
namespace Go.Proofs.Ytgjpdamojfkpiab
open Go.RowKit Go.Proofs
set_option linter.unusedVariables false
set_option linter.unusedSimpArgs false
attribute [local go_sem ↓] Go.wp_at_zero Go.wp_at_succ
attribute [local irreducible] Ob.twoG
theorem cstays_out (a : Option Addr) (m c : Nat) (h : 100 < m) (w : World)
   (cu : ∀ w, Calls Try.prog 4 #[] w fun e w' => e = .returned (.bool true) ∧ Below w.heap.size w w') :
    Calls Try.prog 3 #[.slice a m c] w fun e w' => e = .returned (.bool true) ∧ Below w.heap.size w w' := by
  have h1 : (100 : Int) < (m : Int) := by omega
  clear h
  go_enter Try.func3, Try.ntmps3
  go_wp2_with (first | (go_at_call 4; first | (with_reducible refine (cu _).mono ?_; rintro e w_cu ⟨rfl, b_cu⟩; have z_cu := b_cu.size; (try simp only [szs] at z_cu))))
  go_ret
  exact ⟨rfl, by (repeat' (first | (with_reducible first | exact Below.refl _ _ | assumption | refine Below.alloc ?_ ?_ _ | refine Below.drew ?_ | refine below_drewN ?_ _ | refine Below.setCell ?_ ?_ _ | refine below_via (by with_reducible assumption) ?_ ?_) | omega | (simp only [szs]; omega) | (simp only [szs] at *; omega)))⟩
set_option maxRecDepth 4000 in
set_option maxHeartbeats 4000000 in
theorem cstays_core (a : Option Addr) (m c : Nat) (hm : m ≤ 100) (u : Nat → Nat) (r : Int) (v : Value) (w : World) (ha : SrcW w.heap.size w a m u)
   (cu : ∀ w, Calls Try.prog 4 #[] w fun e w' => e = .returned (.bool true) ∧ Below w.heap.size w w')
   (c1 : ∀ W f h, SrcW W.heap.size W f m u → Calls Try.prog 5 #[.slice f m h] W fun e w' => e = .returned (.int .u64 r) ∧ Below W.heap.size W w')
   (c2 : ∀ W f h, SrcW W.heap.size W f m u → Calls Try.prog 6 #[.slice f m h, .slice f m h] W fun e w' => e = .returned v ∧ Below W.heap.size W w') :
    Calls Try.prog 3 #[.slice a m c] w fun e w' => e = .returned (.bool true) ∧ Below w.heap.size w w' := by
  have h1 : ¬ (100 : Int) < (m : Int) := by omega
  have ha' : Hid (SrcW w.heap.size w a m u) := ha
  clear ha
  go_enter Try.func3, Try.ntmps3
  go_upto_region 4 with (first | (go_at_call 4; first | (with_reducible refine (cu _).mono ?_; rintro e w_cu ⟨rfl, b_cu⟩; have z_cu := b_cu.size; (try simp only [szs] at z_cu))))
  go_upto_region 5 with (at_builtin; refine wpList_copyW rfl _ _ rfl w.heap.size w_cu.heap.size rfl (World.ownsRow_made w_cu #[] 0 z_cu (by decide) rfl) (by simp; omega) w.heap.size a m c u rfl (ha'.out.below (by (repeat' (first | (with_reducible first | exact Below.refl _ _ | assumption | refine Below.alloc ?_ ?_ _ | refine Below.drew ?_ | refine below_drewN ?_ _ | refine Below.setCell ?_ ?_ _ | refine below_via (by with_reducible assumption) ?_ ?_) | omega | (simp only [szs]; omega) | (simp only [szs] at *; omega))))) (by omega) ?_; intro g cap w2 hown hB2)
  have hB : Below w.heap.size w w2 := by (repeat' (first | (with_reducible first | exact Below.refl _ _ | assumption | refine Below.alloc ?_ ?_ _ | refine Below.drew ?_ | refine below_drewN ?_ _ | refine Below.setCell ?_ ?_ _ | refine below_via (by with_reducible assumption) ?_ ?_) | omega | (simp only [szs]; omega) | (simp only [szs] at *; omega)))
  have hsrc : Hid (SrcW w2.heap.size w2 (some ⟨g, 0, none⟩) m u) := SrcW.of (wds_of_row hown)
  clear hown b_cu z_cu hB2 cu
  go_upto_region 6 with (go_at_call 5; (with_reducible refine (c1 _ _ _ hsrc.out).mono ?_); rintro e w3 ⟨rfl, b3⟩)
  have hs3 : Hid (SrcW w3.heap.size w3 (some ⟨g, 0, none⟩) m u) := hsrc.out.to b3 (Nat.le_refl _)
  have hB3 : Below w.heap.size w w3 := below_via b3 hB hB.size
  clear b3 hB hsrc
  go_upto_region 7 with (go_at_call 6; (with_reducible refine (c2 _ _ _ hs3.out).mono ?_); rintro e w4 ⟨rfl, b4⟩)
  have hs4 : Hid (SrcW w4.heap.size w4 (some ⟨g, 0, none⟩) m u) := hs3.out.to b4 (Nat.le_refl _)
  have hB4 : Below w.heap.size w w4 := below_via b4 hB3 hB3.size
  clear b4 hB3 hs3 c2
  go_wp2
  go_loopw [6] (fun si wr => ∃ i : Nat, i ≤ m ∧ si = .int .i64 i ∧ Hid (SrcW wr.heap.size wr (some ⟨g, 0, none⟩) m u) ∧ Below w.heap.size w wr) (fun si _ => m - (intOf si).toNat)
  case atStart => exact ⟨0, by omega, rfl, hs4, hB4⟩
  case round =>
    clear hs4 hB4
    obtain ⟨i, hi, rfl, hs, hB⟩ := hrel
    by_cases hlt : i < m
    · have hlt' : (i : Int) < (m : Int) := by omega
      have hi0 : (0 : Int) ≤ (i : Int) := by omega
      rcases ha'.out with h | ⟨ba, oa, rfl, la, wa⟩
      · omega
      rcases hs.out with h | ⟨gg, oo, e0, lg, wg⟩
      · omega
      obtain ⟨rfl, rfl⟩ : g = gg ∧ 0 = oo := by cases e0; exact ⟨rfl, rfl⟩
      have d1 : wr.cell? ⟨ba, oa + i, none⟩ = some (.int .u64 (u i : Nat)) := (wa.below hB la).at_ i hlt
      have d2 := wg.at_ i hlt
      rw [Nat.zero_add] at d2
      generalize u i = ui at *
      clear la wa lg wg e0
      go_wp2
      go_quiet (fail)
      go_wp2
      go_roundw
      case rel => exact ⟨i + 1, by omega, by go_num, hs.out.to (B := wr.heap.size) (by (repeat' (first | (with_reducible first | exact Below.refl _ _ | assumption | refine Below.alloc ?_ ?_ _ | refine Below.drew ?_ | refine below_drewN ?_ _ | refine Below.setCell ?_ ?_ _ | refine below_via (by with_reducible assumption) ?_ ?_) | omega | (simp only [szs]; omega) | (simp only [szs] at *; omega)))) (Nat.le_refl _), by (repeat' (first | (with_reducible first | exact Below.refl _ _ | assumption | refine Below.alloc ?_ ?_ _ | refine Below.drew ?_ | refine below_drewN ?_ _ | refine Below.setCell ?_ ?_ _ | refine below_via (by with_reducible assumption) ?_ ?_) | omega | (simp only [szs]; omega) | (simp only [szs] at *; omega)))⟩
      case measure => first | (simp [intOf]; done) | (simp [intOf]; omega)
    · obtain rfl : i = m := by omega
      have hlt' : ¬ (i : Int) < (i : Int) := by omega
      go_wp2_with (go_at_call 5; (with_reducible refine (c1 _ _ _ hs.out).mono ?_); rintro e w5 ⟨rfl, b5⟩; have z5 := b5.size)
      have zB := hB.size
      go_ret
      exact ⟨rfl, by (repeat' (first | (with_reducible first | exact Below.refl _ _ | assumption | refine Below.alloc ?_ ?_ _ | refine Below.drew ?_ | refine below_drewN ?_ _ | refine Below.setCell ?_ ?_ _ | refine below_via (by with_reducible assumption) ?_ ?_) | omega | (simp only [szs]; omega) | (simp only [szs] at *; omega)))⟩
end Go.Proofs.Ytgjpdamojfkpiab
