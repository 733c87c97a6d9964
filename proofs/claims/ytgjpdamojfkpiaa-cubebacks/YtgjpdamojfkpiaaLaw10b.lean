/-
  The walks of layer 10's statements on lists, over what package cube's calls answer.
-/
import Derived.Test.YtgjpdamojfkpiaaLaw10a
import Derived.Test.YtgjpdamojfkpiaaRefK2
import Derived.Test.YtgjpdamojfkpiaaCodeEq
namespace Go.Proofs.Ytgjpdamojfkpiaa
open Go.RowKit Go.Proofs
set_option linter.unusedVariables false
set_option linter.unusedSimpArgs false
attribute [local go_sem ↓] Go.wp_at_zero Go.wp_at_succ
attribute [local irreducible] Ob.twoG
theorem chashes_out (x y : Int) (ad : Option Addr) (m c : Nat) (h : 200 < m) (w : World)
   (cu : ∀ w, Calls Try.prog 9 #[] w fun e w' => e = .returned (.bool true) ∧ Below w.heap.size w w') :
    Calls Try.prog 5 #[.int .u64 x, .int .u64 y, .slice ad m c] w fun e w' => e = .returned (.bool true) ∧ Below w.heap.size w w' := by
  have h1 : (200 : Int) < (m : Int) := by omega
  clear h
  go_enter Try.func5, Try.ntmps5
  go_wp2_with (first | (go_at_call 9; first | (with_reducible refine (cu _).mono ?_; rintro e w_cu ⟨rfl, b_cu⟩; have z_cu := b_cu.size; (try simp only [szs] at z_cu))))
  go_ret
  exact ⟨rfl, by (repeat' (first | (with_reducible first | exact Below.refl _ _ | assumption | refine Below.alloc ?_ ?_ _ | refine Below.drew ?_ | refine below_drewN ?_ _ | refine Below.setCell ?_ ?_ _ | refine below_via (by with_reducible assumption) ?_ ?_) | omega | (simp only [szs]; omega) | (simp only [szs] at *; omega)))⟩
set_option maxHeartbeats 1000000 in
theorem chashes_core (x y s r : Int) (ad : Option Addr) (m c : Nat) (h : m ≤ 200) (l : Nat → Nat) (w : World) (hs : SrcW w.heap.size w ad m l)
   (cu : ∀ w, Calls Try.prog 9 #[] w fun e w' => e = .returned (.bool true) ∧ Below w.heap.size w w')
   (c1 : ∀ w, Calls Try.prog 13 #[.int .u64 x, .int .u64 y] w fun e w' => e = .returned (.int .u64 s) ∧ Below w.heap.size w w')
   (c2 : ∀ w, Calls Try.prog 14 #[.int .u64 x, .int .u64 y] w fun e w' => e = .returned (.int .u64 s) ∧ w = w')
   (c3 : ∀ W, SrcW W.heap.size W ad m l → Calls Try.prog 15 #[.slice ad m c] W fun e w' => e = .returned (.int .u64 r) ∧ Below W.heap.size W w')
   (c4 : ∀ W, SrcW W.heap.size W ad m l → Calls Try.prog 16 #[.slice ad m c] W fun e w' => e = .returned (.int .u64 r) ∧ W = w') :
    Calls Try.prog 5 #[.int .u64 x, .int .u64 y, .slice ad m c] w fun e w' => e = .returned (.bool true) ∧ Below w.heap.size w w' := by
  have h1 : ¬ (200 : Int) < (m : Int) := by omega
  have hs' : Hid (SrcW w.heap.size w ad m l) := hs
  clear h hs
  go_enter Try.func5, Try.ntmps5
  go_wp2_with (first | (first | (go_at_call 9; first | (with_reducible refine (cu _).mono ?_; rintro e w_cu ⟨rfl, b_cu⟩; have z_cu := b_cu.size; (try simp only [szs] at z_cu))) | (go_at_call 13; first | (with_reducible refine (c1 _).mono ?_; rintro e w_c1 ⟨rfl, b_c1⟩; have z_c1 := b_c1.size; (try simp only [szs] at z_c1))) | (go_at_call 14; first | (with_reducible refine (c2 _).mono ?_; rintro e w' ⟨rfl, rfl⟩))) | (go_at_call 15; (with_reducible refine (c3 _ (hs'.out.to (by (repeat' (first | (with_reducible first | exact Below.refl _ _ | assumption | refine Below.alloc ?_ ?_ _ | refine Below.drew ?_ | refine below_drewN ?_ _ | refine Below.setCell ?_ ?_ _ | refine below_via (by with_reducible assumption) ?_ ?_) | omega | (simp only [szs]; omega) | (simp only [szs] at *; omega)))) (Nat.le_refl _))).mono ?_); rintro e w3 ⟨rfl, b3⟩; have z3 := b3.size) | (go_at_call 16; (with_reducible refine (c4 _ (hs'.out.to (by (repeat' (first | (with_reducible first | exact Below.refl _ _ | assumption | refine Below.alloc ?_ ?_ _ | refine Below.drew ?_ | refine below_drewN ?_ _ | refine Below.setCell ?_ ?_ _ | refine below_via (by with_reducible assumption) ?_ ?_) | omega | (simp only [szs]; omega) | (simp only [szs] at *; omega)))) (Nat.le_refl _))).mono ?_); rintro e w4 ⟨rfl, rfl⟩))
  go_ret
  exact ⟨rfl, by (repeat' (first | (with_reducible first | exact Below.refl _ _ | assumption | refine Below.alloc ?_ ?_ _ | refine Below.drew ?_ | refine below_drewN ?_ _ | refine Below.setCell ?_ ?_ _ | refine below_via (by with_reducible assumption) ?_ ?_) | omega | (simp only [szs]; omega) | (simp only [szs] at *; omega)))⟩
theorem hs_to {w W : World} {a : Option Addr} {m : Nat} {l : Nat → Nat} (h : Hid (SrcW w.heap.size w a m l)) (hB : Below w.heap.size w W) : Hid (SrcW W.heap.size W a m l) := h.out.to hB (Nat.le_refl _)
theorem cclash_out (a b : Option Addr) (m c n d : Nat) (h : 100 < m ∨ (m ≤ 100 ∧ 100 < n)) (w : World)
   (cu : ∀ w, Calls Try.prog 9 #[] w fun e w' => e = .returned (.bool true) ∧ Below w.heap.size w w') :
    Calls Try.prog 6 #[.slice a m c, .slice b n d] w fun e w' => e = .returned (.bool true) ∧ Below w.heap.size w w' := by
  rcases h with h | ⟨h, h2⟩
  · have h1 : (100 : Int) < (m : Int) := by omega
    clear h
    go_enter Try.func6, Try.ntmps6
    go_wp2_with (first | (go_at_call 9; first | (with_reducible refine (cu _).mono ?_; rintro e w_cu ⟨rfl, b_cu⟩; have z_cu := b_cu.size; (try simp only [szs] at z_cu))))
    go_ret
    exact ⟨rfl, by (repeat' (first | (with_reducible first | exact Below.refl _ _ | assumption | refine Below.alloc ?_ ?_ _ | refine Below.drew ?_ | refine below_drewN ?_ _ | refine Below.setCell ?_ ?_ _ | refine below_via (by with_reducible assumption) ?_ ?_) | omega | (simp only [szs]; omega) | (simp only [szs] at *; omega)))⟩
  · have h1 : ¬ (100 : Int) < (m : Int) := by omega
    have h3 : (100 : Int) < (n : Int) := by omega
    clear h h2
    go_enter Try.func6, Try.ntmps6
    go_wp2_with (first | (go_at_call 9; first | (with_reducible refine (cu _).mono ?_; rintro e w_cu ⟨rfl, b_cu⟩; have z_cu := b_cu.size; (try simp only [szs] at z_cu))))
    go_ret
    exact ⟨rfl, by (repeat' (first | (with_reducible first | exact Below.refl _ _ | assumption | refine Below.alloc ?_ ?_ _ | refine Below.drew ?_ | refine below_drewN ?_ _ | refine Below.setCell ?_ ?_ _ | refine below_via (by with_reducible assumption) ?_ ?_) | omega | (simp only [szs]; omega) | (simp only [szs] at *; omega)))⟩
set_option maxRecDepth 8000 in
set_option maxHeartbeats 16000000 in
theorem cclash_core (a b : Option Addr) (m c n d : Nat) (hm : m ≤ 100) (hn : n ≤ 100) (u v : Nat → Nat) (v0 v1 v2 v3 : Int) (er : Value) (w : World)
   (ha : SrcW w.heap.size w a m u) (hb : SrcW w.heap.size w b n v) (hC : ClashIs m n u v v0 v1 v2 v3 er)
   (cu : ∀ w, Calls Try.prog 9 #[] w fun e w' => e = .returned (.bool true) ∧ Below w.heap.size w w')
   (cc : ∀ W, Below w.heap.size w W → Calls Try.prog 17 #[.slice a m c, .slice b n d] W fun e w' => e = .returned (.tuple #[.int .u64 v0, .int .u64 v1, .int .u64 v2, .int .u64 v3, er]) ∧ Below W.heap.size W w')
   (ch : ∀ W, SrcW W.heap.size W a m u → Calls Try.prog 18 #[.slice a m c] W fun e w' => ∃ v, e = .returned v ∧ OwnW w' W.heap.size v (m + 1) (hdN m u) ∧ Below W.heap.size W w')
   (ch' : ∀ W, SrcW W.heap.size W b n v → Calls Try.prog 18 #[.slice b n d] W fun e w' => ∃ x, e = .returned x ∧ OwnW w' W.heap.size x (n + 1) (hdN n v) ∧ Below W.heap.size W w') :
    Calls Try.prog 6 #[.slice a m c, .slice b n d] w fun e w' => e = .returned (.bool true) ∧ Below w.heap.size w w' := by
  have h1 : ¬ (100 : Int) < (m : Int) := by omega
  have h2 : ¬ (100 : Int) < (n : Int) := by omega
  have ha' : Hid (SrcW w.heap.size w a m u) := ha
  have hb' : Hid (SrcW w.heap.size w b n v) := hb
  have hC' : Hid (ClashIs m n u v v0 v1 v2 v3 er) := hC
  have ec := fun w => eql_code w 1 1
  clear ha hb hC
  go_enter Try.func6, Try.ntmps6
  go_upto_region 5 with (first | (first | (go_at_call 9; first | (with_reducible refine (cu _).mono ?_; rintro e w_cu ⟨rfl, b_cu⟩; have z_cu := b_cu.size; (try simp only [szs] at z_cu)))) | (go_at_call 17; (with_reducible refine (cc _ b_cu).mono ?_); rintro e w2 ⟨rfl, b2⟩; have z2 := b2.size))
  have hB2 : Below w.heap.size w w2 := by (repeat' (first | (with_reducible first | exact Below.refl _ _ | assumption | refine Below.alloc ?_ ?_ _ | refine Below.drew ?_ | refine below_drewN ?_ _ | refine Below.setCell ?_ ?_ _ | refine below_via (by with_reducible assumption) ?_ ?_) | omega | (simp only [szs]; omega) | (simp only [szs] at *; omega)))
  clear b_cu z_cu b2 z2 cu cc
  have hsa := hs_to ha' hB2
  go_upto_region 6 with (go_at_call 18; (with_reducible refine (ch _ hsa.out).mono ?_); rintro e w3 ⟨x1, rfl, o3, b3⟩)
  obtain ⟨f1, k1, rfl, _, _, s1⟩ := o3.src
  rcases s1 with s1 | ⟨g, og, rfl, lg, wg⟩
  · omega
  have hB3 : Below w.heap.size w w3 := below_via b3 hB2 hB2.size
  clear o3 b3 ch hsa hB2
  have wg' : Hid (Wds w3 g og (m + 1) (hdN m u)) := wg
  have hsb := hs_to hb' hB3
  go_upto_region 7 with (go_at_call 18; (with_reducible refine (ch' _ hsb.out).mono ?_); rintro e w4 ⟨x2, rfl, o4, b4⟩)
  obtain ⟨f2, k2, rfl, _, _, s2⟩ := o4.src
  rcases s2 with s2 | ⟨p, op, rfl, lp, wp⟩
  · omega
  have hB4 : Below w.heap.size w w4 := below_via b4 hB3 hB3.size
  have wg4 : Hid (Wds w4 g og (m + 1) (hdN m u)) := wg'.out.below b4 lg
  have wp4 : Hid (Wds w4 p op (n + 1) (hdN n v)) := wp
  clear o4 b4 ch' hsb hB3 wg wg' wp lg lp
  rcases hC'.out with ⟨hno, rfl, rfl, rfl, rfl, rfl⟩ | ⟨rfl, heq, i0, hi0, rfl, rfl, rfl, rfl, rfl⟩
  all_goals clear hC'
  · by_cases hmn : m = n
    · subst hmn
      by_cases heq : hdN m u m = hdN m v m
      · have hcl : Hid (clashAt m u v m = none) := by show _ = _; exact Decidable.byContradiction fun h => hno ⟨rfl, heq, h⟩
        clear hno
        have l1 := wg4.out.at_ m (by omega)
        have l2 := wp4.out.at_ m (by omega)
        obtain ⟨G, hG⟩ : ∃ G, Hid (hdN m u m = G) := ⟨_, rfl⟩
        rw [← heq, hG.out] at l2
        rw [hG.out] at l1
        have i1 : (m : Int) < (m : Int) + 1 := by omega
        go_quiet (fail)
        go_wp2
        clear l1 l2 i1 hG heq
        go_loopw [13] (fun si wr => ∃ (k : Nat) (j : Int), k ≤ m ∧ si = .int .i64 j ∧ Hid (j = (k : Int) - 1) ∧ Below w.heap.size w wr ∧ Hid (clashAt m u v k = none) ∧ Hid (Wds wr g og (m + 1) (hdN m u)) ∧ Hid (Wds wr p op (m + 1) (hdN m v))) (fun si _ => (intOf si + 1).toNat)
        case atStart => exact ⟨m, (m : Int) - 1, by omega, by go_num, rfl, by (repeat' (first | (with_reducible first | exact Below.refl _ _ | assumption | refine Below.alloc ?_ ?_ _ | refine Below.drew ?_ | refine below_drewN ?_ _ | refine Below.setCell ?_ ?_ _ | refine below_via (by with_reducible assumption) ?_ ?_) | omega | (simp only [szs]; omega) | (simp only [szs] at *; omega))), hcl, wg4.out.drewN _, wp4.out.drewN _⟩
        case round =>
          clear wg4 wp4 hB4 hcl
          obtain ⟨k, j, hk, rfl, hj, hB, hcl, wg, wp⟩ := hrel
          rcases Nat.eq_zero_or_pos k with rfl | hk0
          · obtain rfl : j = -1 := by have := hj.out; omega
            go_wp2
            go_ret
            exact ⟨rfl, by (repeat' (first | (with_reducible first | exact Below.refl _ _ | assumption | refine Below.alloc ?_ ?_ _ | refine Below.drew ?_ | refine below_drewN ?_ _ | refine Below.setCell ?_ ?_ _ | refine below_via (by with_reducible assumption) ?_ ?_) | omega | (simp only [szs]; omega) | (simp only [szs] at *; omega)))⟩
          · obtain ⟨i, rfl⟩ : ∃ i, k = i + 1 := ⟨k - 1, by omega⟩
            obtain rfl : j = (i : Int) := by have := hj.out; omega
            clear hj
            have hi0 : (0 : Int) ≤ (i : Int) := by omega
            have hi1 : (i : Int) < (m : Int) + 1 := by omega
            have hi2 : (i : Int) < (m : Int) := by omega
            have l1 := wg.out.at_ i (by omega)
            have l2 := wp.out.at_ i (by omega)
            rcases ha'.out with hz | ⟨ba, oa, rfl, la, wa⟩
            · omega
            rcases hb'.out with hz | ⟨bb, ob, rfl, lb, wb⟩
            · omega
            have l3 := (wa.below hB la).at_ i (by omega)
            have l4 := (wb.below hB lb).at_ i (by omega)
            have r1 := rest_toG (u i)
            have r2 := rest_toG2 (u i)
            have r3 := rest_toG (v i)
            have r4 := rest_toG2 (v i)
            clear la wa lb wb
            have hsame : hdN m u i = hdN m v i ∧ Ob.toG (u i) = Ob.toG (v i) := Decidable.byContradiction fun h => by have := hcl.out; rw [clashAt_other h] at this; cases this
            have hcl2 : Hid (clashAt m u v i = none) := by have := hcl.out; rw [clashAt_same hsame] at this; exact this
            rw [← hsame.2] at r3 r4
            rw [← hsame.1] at l2
            clear hcl hsame
            generalize u i = ui at *
            generalize v i = vi at *
            generalize (Ob.toG ui).val = r at *
            generalize hdN m u i = G at *
            go_wp2
            go_quiet (fail)
            go_wp2
            go_roundw
            case rel => exact ⟨i, (i : Int) - 1, by omega, by go_num, rfl, by (repeat' (first | (with_reducible first | exact Below.refl _ _ | assumption | refine Below.alloc ?_ ?_ _ | refine Below.drew ?_ | refine below_drewN ?_ _ | refine Below.setCell ?_ ?_ _ | refine below_via (by with_reducible assumption) ?_ ?_) | omega | (simp only [szs]; omega) | (simp only [szs] at *; omega))), hcl2, wg.out.drewN _, wp.out.drewN _⟩
            case measure => first | (simp [intOf]; done) | (simp [intOf]; omega)
      · have l1 := wg4.out.at_ m (by omega)
        have l2 := wp4.out.at_ m (by omega)
        have hg2 : (((hdN m u m : Nat) : Int) == ((hdN m v m : Nat) : Int)) = false := by rw [beq_eq_false_iff_ne]; omega
        have i1 : (m : Int) < (m : Int) + 1 := by omega
        clear hno heq wg4 wp4
        generalize hdN m u m = G at *
        generalize hdN m v m = G' at *
        go_quiet (fail)
        go_wp2
        go_ret
        exact ⟨rfl, by (repeat' (first | (with_reducible first | exact Below.refl _ _ | assumption | refine Below.alloc ?_ ?_ _ | refine Below.drew ?_ | refine below_drewN ?_ _ | refine Below.setCell ?_ ?_ _ | refine below_via (by with_reducible assumption) ?_ ?_) | omega | (simp only [szs]; omega) | (simp only [szs] at *; omega)))⟩
    · have hmn2 : ((m : Int) == (n : Int)) = false := by rw [beq_eq_false_iff_ne]; omega
      have hmn3 : ((m : Int) != (n : Int)) = true := by rw [bne_iff_ne]; omega
      clear hno wg4 wp4
      go_quiet (fail)
      go_wp2
      go_ret
      exact ⟨rfl, by (repeat' (first | (with_reducible first | exact Below.refl _ _ | assumption | refine Below.alloc ?_ ?_ _ | refine Below.drew ?_ | refine below_drewN ?_ _ | refine Below.setCell ?_ ?_ _ | refine below_via (by with_reducible assumption) ?_ ?_) | omega | (simp only [szs]; omega) | (simp only [szs] at *; omega)))⟩
  · have hcl : Hid (clashAt m u v m = some i0) := hi0
    clear hi0
    have l1 := wg4.out.at_ m (by omega)
    have l2 := wp4.out.at_ m (by omega)
    obtain ⟨G, hG⟩ : ∃ G, Hid (hdN m u m = G) := ⟨_, rfl⟩
    rw [← heq, hG.out] at l2
    rw [hG.out] at l1
    have i1 : (m : Int) < (m : Int) + 1 := by omega
    go_quiet (fail)
    go_wp2
    clear l1 l2 i1 hG heq
    go_loopw [13] (fun si wr => ∃ (k : Nat) (j : Int), k ≤ m ∧ si = .int .i64 j ∧ Hid (j = (k : Int) - 1) ∧ Below w.heap.size w wr ∧ Hid (clashAt m u v k = some i0) ∧ Hid (Wds wr g og (m + 1) (hdN m u)) ∧ Hid (Wds wr p op (m + 1) (hdN m v))) (fun si _ => (intOf si + 1).toNat)
    case atStart => exact ⟨m, (m : Int) - 1, by omega, by go_num, rfl, by (repeat' (first | (with_reducible first | exact Below.refl _ _ | assumption | refine Below.alloc ?_ ?_ _ | refine Below.drew ?_ | refine below_drewN ?_ _ | refine Below.setCell ?_ ?_ _ | refine below_via (by with_reducible assumption) ?_ ?_) | omega | (simp only [szs]; omega) | (simp only [szs] at *; omega))), hcl, wg4.out.drewN _, wp4.out.drewN _⟩
    case round =>
      clear wg4 wp4 hB4 hcl
      obtain ⟨k, j, hk, rfl, hj, hB, hcl, wg, wp⟩ := hrel
      rcases Nat.eq_zero_or_pos k with rfl | hk0
      · obtain rfl : j = -1 := by have := hj.out; omega
        exact absurd hcl.out (by intro h; cases h)
      · obtain ⟨i, rfl⟩ : ∃ i, k = i + 1 := ⟨k - 1, by omega⟩
        obtain rfl : j = (i : Int) := by have := hj.out; omega
        clear hj
        have hi0 : (0 : Int) ≤ (i : Int) := by omega
        have hi1 : (i : Int) < (m : Int) + 1 := by omega
        have hi2 : (i : Int) < (m : Int) := by omega
        have l1 := wg.out.at_ i (by omega)
        have l2 := wp.out.at_ i (by omega)
        rcases ha'.out with hz | ⟨ba, oa, rfl, la, wa⟩
        · omega
        rcases hb'.out with hz | ⟨bb, ob, rfl, lb, wb⟩
        · omega
        have l3 := (wa.below hB la).at_ i (by omega)
        have l4 := (wb.below hB lb).at_ i (by omega)
        have r1 := rest_toG (u i)
        have r2 := rest_toG2 (u i)
        have r3 := rest_toG (v i)
        have r4 := rest_toG2 (v i)
        clear la wa lb wb
        by_cases hsame : hdN m u i = hdN m v i ∧ Ob.toG (u i) = Ob.toG (v i)
        · have hcl2 : Hid (clashAt m u v i = some i0) := by have := hcl.out; rw [clashAt_same hsame] at this; exact this
          rw [← hsame.2] at r3 r4
          rw [← hsame.1] at l2
          clear hcl hsame
          generalize u i = ui at *
          generalize v i = vi at *
          generalize (Ob.toG ui).val = r at *
          generalize hdN m u i = G at *
          go_wp2
          go_quiet (fail)
          go_wp2
          go_roundw
          case rel => exact ⟨i, (i : Int) - 1, by omega, by go_num, rfl, by (repeat' (first | (with_reducible first | exact Below.refl _ _ | assumption | refine Below.alloc ?_ ?_ _ | refine Below.drew ?_ | refine below_drewN ?_ _ | refine Below.setCell ?_ ?_ _ | refine below_via (by with_reducible assumption) ?_ ?_) | omega | (simp only [szs]; omega) | (simp only [szs] at *; omega))), hcl2, wg.out.drewN _, wp.out.drewN _⟩
          case measure => first | (simp [intOf]; done) | (simp [intOf]; omega)
        · obtain rfl : i = i0 := by have := hcl.out; rw [clashAt_other hsame] at this; cases this; rfl
          by_cases hg : hdN m u i = hdN m v i
          · have hr : Ob.toG (u i) ≠ Ob.toG (v i) := fun e => hsame ⟨hg, e⟩
            have hr2 : ((((Ob.toG (u i)).val : Nat) : Int) == (((Ob.toG (v i)).val : Nat) : Int)) = false := by rw [beq_valN]; exact decide_eq_false hr
            rw [← hg] at l2 ⊢
            clear hsame hcl hr
            generalize u i = ui at *
            generalize v i = vi at *
            generalize (Ob.toG ui).val = r at *
            generalize (Ob.toG vi).val = r' at *
            generalize hdN m u i = G at *
            go_wp2
            go_quiet (fail)
            go_wp2
            go_ret
            exact ⟨rfl, by (repeat' (first | (with_reducible first | exact Below.refl _ _ | assumption | refine Below.alloc ?_ ?_ _ | refine Below.drew ?_ | refine below_drewN ?_ _ | refine Below.setCell ?_ ?_ _ | refine below_via (by with_reducible assumption) ?_ ?_) | omega | (simp only [szs]; omega) | (simp only [szs] at *; omega)))⟩
          · have hg2 : (((hdN m u i : Nat) : Int) == ((hdN m v i : Nat) : Int)) = false := by rw [beq_eq_false_iff_ne]; omega
            have hg3 : (((hdN m u i : Nat) : Int) != ((hdN m v i : Nat) : Int)) = true := by rw [bne_iff_ne]; omega
            clear hsame hcl
            generalize u i = ui at *
            generalize v i = vi at *
            generalize (Ob.toG ui).val = r at *
            generalize (Ob.toG vi).val = r' at *
            generalize hdN m u i = G at *
            generalize hdN m v i = G' at *
            go_wp2
            go_quiet (fail)
            go_wp2
            go_ret
            exact ⟨rfl, by (repeat' (first | (with_reducible first | exact Below.refl _ _ | assumption | refine Below.alloc ?_ ?_ _ | refine Below.drew ?_ | refine below_drewN ?_ _ | refine Below.setCell ?_ ?_ _ | refine below_via (by with_reducible assumption) ?_ ?_) | omega | (simp only [szs]; omega) | (simp only [szs] at *; omega)))⟩
end Go.Proofs.Ytgjpdamojfkpiaa
