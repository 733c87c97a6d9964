/-
  Layer 7's statement on what stays, walked.
-/
import Derived.Test.YtoigpjaffggekabDoorLaw07e
import Derived.Test.YtoigpjaffggekabDoorLaw07f
import Derived.Test.YtoigpjaffggekabDoorLaw07g
import Derived.Test.YtoigpjaffggekabDoorRowW
namespace Go.Proofs.YtoigpjaffggekabDoor
open Go.RowKit Go.Proofs
set_option linter.unusedVariables false
set_option linter.unusedSimpArgs false

theorem edwardsStays_walk (x0 y0 : Int) (a1 : Option Addr) (len1 cap1 : Nat) (z1 : List Int) (w : World) (wx0 : (Lit.int .u64 x0).wf = true) (wy0 : (Lit.int .u64 y0).wf = true) (w1 : IsRow .u8 w a1 len1 cap1 z1) (r1 : cap1 * 1 ≤ 140737488351232) (hT : TabOk w) :
    Calls Tryd.prog 4 #[.agg #[.int .u64 x0, .int .u64 y0], .slice a1 len1 cap1] w fun e w' => e = .returned (.bool true) ∧ Below w.heap.size w w' := by
  obtain ⟨x, rfl, hx⟩ := word_of wx0
  obtain ⟨y, rfl, hy⟩ := word_of wy0
  have c0 := eisW x y hx hy
  have cwy : ∀ {u : Ob.Ep}, Ob.onG u → ∀ w, Calls Tryd.prog 12 #[edV u] w fun e w' => ∃ g cap, e = .returned (.tuple #[.slice (some ⟨g, 0, none⟩) 8 cap, .nilIface]) ∧ w.heap.size ≤ g ∧ 8 ≤ cap ∧ Bys w' g 0 8 (Ob.byteAt (Ob.edN u)) ∧ (∀ o, w'.frozen? ⟨g, o, none⟩ = false) ∧ Below w.heap.size w w' := fun hu w =>
    (ewriteW hu w).mono fun e w' ⟨g, h1, h2, h3, h4⟩ => ⟨g, 8, h1, h2, by decide, bys_of_row h3, free_of_row h3, h4⟩
  have rby : ∀ (u : Ob.Ep) w, Calls Tryd.prog 13 #[edV u] w fun e w' => ∃ g cap, e = .returned (.slice (some ⟨g, 0, none⟩) 8 cap) ∧ w.heap.size ≤ g ∧ Bys w' g 0 8 (Ob.byteAt (Ob.edN u)) ∧ Below w.heap.size w w' := fun u w =>
    (gbytesW u w).mono fun e w' ⟨g, h1, h2, h3, h4⟩ => ⟨g, 8, h1, h2, h3, h4⟩
  by_cases h0 : len1 = 0
  · subst h0
    have cr := fun (a : Option Addr) (c : Nat) (w1 : World) => eread_len a 0 c (by decide) w1
    unfold noEd at cr
    cases h : Ob.isG x y with
    | false =>
      rw [h] at c0
      exact stays0_no x y a1 cap1 _ _ _ w (Or.inr rfl) (fun w => ewrite_no x y w c0) cr
    | true =>
      have ha := Ob.ofG_on x y
      have hv := edV_yes h
      generalize Ob.ofG x y = a at *
      rw [hv]
      exact stays0_yes _ _ 8 (Ob.byteAt (Ob.edN a)) (Ob.byteAt_lt _) (by decide) a1 cap1 _ _ _ w (Or.inr rfl) (cwy ha) (rby a) cr
  · obtain ⟨b, off, z, rfl, hcap, hm, hz, hY, _⟩ := bys_of_isRow (n := len1) w1 (by omega) (Nat.le_refl _)
    have R : ∃ (X Y : Int) (fv : Value), (fv = .nilIface ∨ fv = .iface 49 (.int .i64 3)) ∧ ∀ (b' off' cap' : Nat) (w1 : World), Below w.heap.size w w1 → Bys w1 b' off' len1 z → len1 ≤ cap' → Calls Tryd.prog 11 #[.slice (some ⟨b', off', none⟩) len1 cap'] w1 fun e w' => e = .returned (.tuple #[.agg #[.int .u64 X, .int .u64 Y], fv]) ∧ Below w1.heap.size w1 w' := by
      by_cases h8 : len1 = 8
      · subst h8
        by_cases hH : Ob.Has (Ob.num z 8)
        · obtain ⟨u, hu, h1, h2, h3⟩ := Ob.rd_yes (Ob.num_word z hz) hH
          have hN := Ob.edN_of u (Ob.num z 8) h1 h2 (Ob.num_word z hz)
          exact ⟨_, _, _, Or.inl rfl, fun b' off' cap' w1 hb hy' _ => eread_yes b' off' cap' z hz w1 (hT.below hb hT.lt) hy' hu hN.symm⟩
        · exact ⟨_, _, _, Or.inr rfl, fun b' off' cap' w1 hb hy' _ => eread_no b' off' cap' z hz w1 (hT.below hb hT.lt) hy' hH⟩
      · exact ⟨_, _, _, Or.inr rfl, fun b' off' cap' w1 hb hy' _ => eread_len _ len1 cap' h8 w1⟩
    obtain ⟨X, Y, fv, hfv, cr⟩ := R
    cases h : Ob.isG x y with
    | false =>
      rw [h] at c0
      exact stays_no x y b off len1 cap1 z hz X Y fv w (by omega) hcap (by omega) hY hfv (fun w => ewrite_no x y w c0) cr
    | true =>
      have ha := Ob.ofG_on x y
      have hv := edV_yes h
      generalize Ob.ofG x y = a at *
      rw [hv]
      exact stays_yes _ _ 8 (Ob.byteAt (Ob.edN a)) (Ob.byteAt_lt _) (by decide) b off len1 cap1 z hz X Y fv w (by omega) hcap (by omega) hY hfv (cwy ha) (rby a) cr
end Go.Proofs.YtoigpjaffggekabDoor
