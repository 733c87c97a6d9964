/-
  Layer 3's statement on what stays, walked.
-/
import Derived.Test.YtcgbemnmebgmjabLaw03f
import Derived.Test.YtcgbemnmebgmjabLaw03g
import Derived.Test.YtcgbemnmebgmjabLaw03h
import Derived.Test.YtcgbemnmebgmjabRowW
namespace Go.Proofs.Ytcgbemnmebgmjab
open Go.RowKit Go.Proofs
set_option linter.unusedVariables false
set_option linter.unusedSimpArgs false

theorem plen_le (a : Ob.Cp) : plen a ≤ 17 := by cases a <;> simp [plen]
theorem curveStays_walk (i0 : Bool) (x0 y0 : Int) (a1 : Option Addr) (len1 cap1 : Nat) (z1 : List Int) (w : World) (wx0 : (Lit.int .u64 x0).wf = true) (wy0 : (Lit.int .u64 y0).wf = true) (w1 : IsRow .u8 w a1 len1 cap1 z1) (r1 : cap1 * 1 ≤ 140737488351232) :
    Calls Try.prog 3 #[.agg #[.bool i0, .int .u64 x0, .int .u64 y0], .slice a1 len1 cap1] w fun e w' => e = .returned (.bool true) ∧ Below w.heap.size w w' := by
  obtain ⟨x, rfl, hx⟩ := word_of wx0
  obtain ⟨y, rfl, hy⟩ := word_of wy0
  by_cases h0 : len1 = 0
  · subst h0
    have cr := fun (a : Option Addr) (c : Nat) (w1 : World) => cread_len a 0 c (by decide) (by decide) w1
    cases h : isPt i0 x y with
    | false => exact stays0_no i0 x y a1 cap1 _ _ _ _ w (Or.inr rfl) (cwriteW_no hx hy h) cr
    | true =>
      have ha := ptOf_on i0 x y
      have hv := ptV_of h
      generalize ptOf i0 x y = a at *
      rw [hv]
      exact stays0_yes _ _ _ (plen a) (pby a) (pby_lt a) (plen_le a) a1 cap1 _ _ _ _ w (Or.inr rfl) (fun w => cwriteW ha w) (rptbytesW a) cr
  · obtain ⟨b, off, z, rfl, hcap, hm, hz, hY, _⟩ := bys_of_isRow (n := len1) w1 (by omega) (Nat.le_refl _)
    have cr := fun (b' off' cap' : Nat) (w1 : World) (hb : Bys w1 b' off' len1 z) (hc : len1 ≤ cap') => creadW b' off' len1 cap' z hz (by omega) hc w1 hb
    have R : ∃ (xi : Bool) (X Y : Int) (fv : Value), (fv = .nilIface ∨ fv = .iface 40 (.int .i64 3)) ∧ rdV (rdOf len1 z) = .tuple #[.agg #[.bool xi, .int .u64 X, .int .u64 Y], fv] := by
      cases rdOf len1 z with
      | none => exact ⟨_, _, _, _, Or.inr rfl, rfl⟩
      | some a => exact ⟨_, _, _, _, Or.inl rfl, rfl⟩
    obtain ⟨xi, X, Y, fv, hfv, he⟩ := R
    rw [he] at cr
    cases h : isPt i0 x y with
    | false => exact stays_no i0 x y b off len1 cap1 z hz xi X Y fv w (by omega) hcap (by omega) hY hfv (cwriteW_no hx hy h) cr
    | true =>
      have ha := ptOf_on i0 x y
      have hv := ptV_of h
      generalize ptOf i0 x y = a at *
      rw [hv]
      exact stays_yes _ _ _ (plen a) (pby a) (pby_lt a) (plen_le a) b off len1 cap1 z hz xi X Y fv w (by omega) hcap (by omega) hY hfv (fun w => cwriteW ha w) (rptbytesW a) cr
end Go.Proofs.Ytcgbemnmebgmjab
