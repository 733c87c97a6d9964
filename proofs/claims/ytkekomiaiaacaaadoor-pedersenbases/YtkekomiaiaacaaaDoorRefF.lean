/-
  The walk of the document's own answer for layer 7: which k finds a point.
-/
import Derived.Test.YtkekomiaiaacaaaDoorRefH
import Derived.Test.YtkekomiaiaacaaaDoorRefB6
import Derived.Test.YtkekomiaiaacaaaDoorJ5
import Derived.Test.YtkekomiaiaacaaaDoorJoinB
namespace Go.Proofs.YtkekomiaiaacaaaDoor
open Go.RowKit Go.Proofs
set_option linter.unusedVariables false
set_option linter.unusedSimpArgs false
attribute [local go_sem ↓] Go.wp_at_zero Go.wp_at_succ

/-- What is told. -/
def fkV (Y : Nat → Nat) : Option Nat → Value
  | some k => .tuple #[.int .u64 (Y k : Nat), .int .i64 (k : Nat)]
  | none => .tuple #[.int .u64 0, .int .i64 (-1)]
set_option maxRecDepth 4000 in
set_option maxHeartbeats 8000000 in
theorem gfoundW (s : ByteArray) (hs : s.size ≤ 8) (n : Nat) (hn : n < 18446744073709551616) (w : World) :
    Calls Tryd.prog 11 #[.string s, .int .u64 n] w fun e w' => e = .returned (fkV (findY s n) (Ob.firstG (findY s n) 128 0)) ∧ Below w.heap.size w w' := by
  obtain ⟨Y, hY⟩ : ∃ Y, Hid (findY s n = Y) := ⟨_, rfl⟩
  rw [hY.out]
  obtain ⟨T, hF⟩ : ∃ T, Hid (Ob.firstG Y 128 0 = T) := ⟨_, rfl⟩
  rw [hF.out]
  have hs' : Hid (s.size ≤ 8) := hs
  have hn' : Hid (n < 18446744073709551616) := hn
  clear hs hn
  go_enter Tryd.func11, Tryd.ntmps11
  go_wp2
  go_loopw [6] (fun sk wr => ∃ k : Nat, k ≤ 128 ∧ sk = .int .i64 k ∧ Below w.heap.size w wr ∧ Hid (Ob.firstG Y (128 - k) k = T)) (fun sk _ => 128 - (intOf sk).toNat)
  case atStart => exact ⟨0, by omega, rfl, by (repeat' (first | (with_reducible first | exact Below.refl _ _ | assumption | refine Below.alloc ?_ ?_ _ | refine Below.drew ?_ | refine below_drewN ?_ _ | refine Below.setCell ?_ ?_ _ | refine below_via (by with_reducible assumption) ?_ ?_) | omega | (simp only [szs]; omega) | (simp only [szs] at *; omega))), hF⟩
  case round =>
    obtain ⟨k, hk, rfl, hB, hI⟩ := hrel
    by_cases hlt : k < 128
    · have hlk : (k : Int) < 128 := by omega
      have hwk : IntKind.u64.wrap (k : Int) = (k : Int) := wrapNat k (by omega)
      have rb0 := fun w => rbytesW n hn'.out w
      have rb1 := fun w => rbytesW k (by omega) w
      obtain ⟨y, hy⟩ : ∃ y, Hid (Y k = y) := ⟨_, rfl⟩
      have hyl : y < Ob.RE := by rw [← hy.out, ← hY.out]; exact findY_lt s n k
      obtain ⟨D, hD⟩ : ∃ D, Hid (lowBy (digS s (byteOf (pair n k)) 16) = D) := ⟨_, rfl⟩
      have hDl : Hid (∀ i, D i < 256) := by rw [← hD.out]; exact lowBy_lt _
      have c1 := fun (W : World) (g c : Nat) (hc : 16 ≤ c) (hy16 : Bys W g 0 16 (byteOf (pair n k))) => rsum_core s hs'.out (some ⟨g, 0, none⟩) 16 c (by decide) hc (byteOf (pair n k)) (fun i => Ob.byteAt_lt _ _) W (Or.inr ⟨g, 0, rfl, hy16⟩)
      rw [hD.out] at c1
      have c2 := fun (W : World) (g c : Nat) (hc : Bys W g 0 32 D) => rnumW g 32 c (by decide) (by decide) D hDl.out W (hc.less (by decide))
      obtain ⟨N, hN⟩ : ∃ N, Hid (Ob.lowN D 8 = N) := ⟨_, rfl⟩
      rw [hN.out] at c2
      have hmod : (N : Int) % 288230376287764481 = (y : Int) := by
        have : N % 288230376287764481 = y := by rw [← hN.out, ← hD.out, ← hy.out, ← hY.out]; rfl
        omega
      have hy2 : (y : Int) < 288230376287764481 := by simp only [Ob.RE] at hyl; omega
      have cs := gsquareW y (by simp only [Ob.RE] at hyl; omega)
      have hyz : Ob.toG y = 0 ↔ y = 0 := by
        constructor
        · intro e
          have := congrArg Fin.val e
          rw [Ob.toG_val, Nat.mod_eq_of_lt hyl] at this
          exact this
        · intro e; rw [e]; rfl
      have hgd := Ob.goodB_iff y
      unfold Ob.Good at hgd
      have cqy := fun (h : Ob.Sq (Ob.gsqr (Ob.toG y)).val) w => square_yes _ w (Ob.G_word _) h
      have cqn := fun (h : ¬ Ob.Sq (Ob.gsqr (Ob.toG y)).val) w => square_no _ w (Ob.G_word _) h
      obtain ⟨S, hS⟩ : ∃ S, Hid (Ob.gsqr (Ob.toG y) = S) := ⟨_, rfl⟩
      rw [hS.out] at cs hgd cqy cqn
      have hSz : S = 0 ↔ S.val = 0 := ⟨fun e => by rw [e]; rfl, fun e => Fin.ext e⟩
      go_upto_region 6 with (first | (go_at_call 18; first | ((with_reducible refine (rb0 _).mono ?_); rintro e w2 ⟨rfl, hy2', hB2⟩; have hBw2 : Below w.heap.size w w2 := (by have := hB.size; (repeat' (first | (with_reducible first | exact Below.refl _ _ | assumption | refine Below.alloc ?_ ?_ _ | refine Below.drew ?_ | refine below_drewN ?_ _ | refine Below.setCell ?_ ?_ _ | refine below_via (by with_reducible assumption) ?_ ?_) | omega | (simp only [szs]; omega) | (simp only [szs] at *; omega))))) | ((with_reducible refine (rb1 _).mono ?_); rintro e w3 ⟨rfl, hy3, hB3⟩; have hBw3 : Below w.heap.size w w3 := (by have := hBw2.size; (repeat' (first | (with_reducible first | exact Below.refl _ _ | assumption | refine Below.alloc ?_ ?_ _ | refine Below.drew ?_ | refine below_drewN ?_ _ | refine Below.setCell ?_ ?_ _ | refine below_via (by with_reducible assumption) ?_ ?_) | omega | (simp only [szs]; omega) | (simp only [szs] at *; omega)))); have hy2'' := hy2'.below hB3 hy2'.lt)) | (at_builtin; refine wpList_full rfl _ _ rfl wr.heap.size 8 w2.heap.size 0 8 8 (Ob.byteAt n) (Ob.byteAt k) hy2'' hy3 (by decide) (by decide) (by decide) rfl rfl ?_; intro cap4 w4 hc4 hy4 hB4; have hy16 := hy4.congr (fun i hi => joinB_pair n k i hi)) | (go_at_call 20; (with_reducible refine (c1 _ _ _ hc4 hy16).mono ?_); rintro e w5 ⟨g5, cap5, rfl, lg5, hy5, hB5⟩) | (go_at_call 19; (with_reducible refine (c2 _ _ _ hy5).mono ?_); rintro e w6 ⟨rfl, rfl⟩))
      have z3 := hBw3.size
      have z4 := hB4.size
      have hBw : Below w.heap.size w w5 := below_via hB5 (below_via hB4 hBw3 z3) (by omega)
      clear z3 z4
      try rw [hmod]
      clear rb0 rb1 c1 c2 hy2' hB2 hBw2 hy3 hB3 hBw3 hy2'' hc4 hy4 hB4 hy16 lg5 hy5 hB5 hB hD hDl hN hwk hmod
      cases hg : Ob.goodB y with
      | true =>
        obtain ⟨g1, g2, g3⟩ := hgd.mp hg
        have cq := cqy g1
        have f1 : ((S.val : Nat) : Int) ≠ 0 := fun e => g2 (hSz.mpr (by omega))
        have f2 : (y : Int) ≠ 0 := fun e => g3 (hyz.mpr (by omega))
        have f3 : (((S.val : Nat) : Int) != 0) = true := by simpa using f1
        have f4 : ((y : Int) != 0) = true := by simpa using f2
        have f5 : (((S.val : Nat) : Int) == 0) = false := by simpa using f1
        have f6 : ((y : Int) == 0) = false := by simpa using f2
        have hI' : Hid (some k = T) := by
          have := hI.out
          rw [Ob.firstG_yes Y (128 - k) k (by omega) (by rw [hy.out]; exact hg)] at this
          exact this
        clear cqy cqn hgd g1 g2 g3 hyz hSz f1 f2 hg
        go_wp2_with (first | (go_at_call 21; first | (with_reducible refine (cs _).mono ?_; rintro e w' ⟨rfl, rfl⟩)) | (go_at_call 22; first | (with_reducible refine (cq _).mono ?_; rintro e w' ⟨rfl, rfl⟩)))
        go_ret2
        exact ⟨by rw [← hI'.out]; show _ = Ending.returned (.tuple #[.int .u64 (Y k : Nat), .int .i64 (k : Nat)]); rw [hy.out]; rfl, hBw⟩
      | false =>
        have hI' : Hid (Ob.firstG Y (128 - (k + 1)) (k + 1) = T) := by
          have := hI.out
          rw [Ob.firstG_no Y (128 - k) k (by omega) (by rw [hy.out]; exact hg), show 128 - k - 1 = 128 - (k + 1) by omega] at this
          exact this
        by_cases hq : Ob.Sq S.val
        · have cq := cqy hq
          by_cases h0 : S = 0
          · have f1 : ((S.val : Nat) : Int) = 0 := by have := hSz.mp h0; omega
            rw [f1] at cs cq
            clear cqy cqn hgd hyz hSz hg hq h0
            go_wp2_with (first | (go_at_call 21; first | (with_reducible refine (cs _).mono ?_; rintro e w' ⟨rfl, rfl⟩)) | (go_at_call 22; first | (with_reducible refine (cq _).mono ?_; rintro e w' ⟨rfl, rfl⟩)))
            go_roundw
            case rel => exact ⟨k + 1, by omega, by go_num, hBw, hI'⟩
            case measure => simp [intOf]; omega
          · have f1 : ((S.val : Nat) : Int) ≠ 0 := fun e => h0 (hSz.mpr (by omega))
            have f3 : (((S.val : Nat) : Int) != 0) = true := by simpa using f1
            have f5 : (((S.val : Nat) : Int) == 0) = false := by simpa using f1
            have f2 : y = 0 := Classical.byContradiction fun h => by
              have := hgd.mpr ⟨hq, h0, fun e => h (hyz.mp e)⟩
              rw [this] at hg; cases hg
            have f4 : (y : Int) = 0 := by omega
            rw [f4] at cs
            clear cqy cqn hgd hyz hSz hg hq h0 f1 f2
            go_wp2_with (first | (go_at_call 21; first | (with_reducible refine (cs _).mono ?_; rintro e w' ⟨rfl, rfl⟩)) | (go_at_call 22; first | (with_reducible refine (cq _).mono ?_; rintro e w' ⟨rfl, rfl⟩)))
            go_roundw
            case rel => exact ⟨k + 1, by omega, by go_num, hBw, hI'⟩
            case measure => simp [intOf]; omega
        · have cq := cqn hq
          clear cqy cqn hgd hyz hSz hg hq
          go_wp2_with (first | (go_at_call 21; first | (with_reducible refine (cs _).mono ?_; rintro e w' ⟨rfl, rfl⟩)) | (go_at_call 22; first | (with_reducible refine (cq _).mono ?_; rintro e w' ⟨rfl, rfl⟩)))
          go_roundw
          case rel => exact ⟨k + 1, by omega, by go_num, hBw, hI'⟩
          case measure => simp [intOf]; omega
    · have hI' : Hid (none = T) := by
        have := hI.out
        rw [show 128 - k = 0 by omega] at this
        exact this
      have hlk : ¬ (k : Int) < 128 := by omega
      go_wp2
      go_ret2
      exact ⟨by rw [← hI'.out]; rfl, by (repeat' (first | (with_reducible first | exact Below.refl _ _ | assumption | refine Below.alloc ?_ ?_ _ | refine Below.drew ?_ | refine below_drewN ?_ _ | refine Below.setCell ?_ ?_ _ | refine below_via (by with_reducible assumption) ?_ ?_) | omega | (simp only [szs]; omega) | (simp only [szs] at *; omega)))⟩
end Go.Proofs.YtkekomiaiaacaaaDoor
