/-
  The walk of the document's own answer to what bytes tell, and what the two tell of one another.
-/
import Derived.Test.YtcgbemnmebgmjabCurveR
namespace Go.Proofs.Ytcgbemnmebgmjab
open Go.RowKit Go.Proofs
set_option linter.unusedVariables false
set_option linter.unusedSimpArgs false
attribute [local go_sem ↓] Go.wp_at_zero Go.wp_at_succ


/-! What is written is read, and what was read is written -/

theorem rd_of_pby {a : Ob.Cp} (ha : Ob.onC a) : rdOf (plen a) (pby a) = some a := by
  cases a with
  | none => rfl
  | some a =>
    obtain ⟨x, y⟩ := a
    have ex : rdX (pby (some (x, y))) = x.val := by
      unfold rdX
      rw [← Ob.num_bytes x.val (Ob.F_word _)]
      refine Ob.num_congr _ _ _ fun i hi => ?_
      simp only [pby]
      rw [if_neg (by omega), show 1 + i - 1 = i by omega]
      unfold byteOf
      rw [Nat.div_eq_of_lt hi, Nat.mod_eq_of_lt hi]; rfl
    have ey : rdY (pby (some (x, y))) = y.val := by
      unfold rdY
      rw [← Ob.num_bytes y.val (Ob.F_word _)]
      refine Ob.num_congr _ _ _ fun i hi => ?_
      simp only [pby]
      rw [if_neg (by omega), show 9 + i - 1 = 8 + i by omega]
      unfold byteOf
      have e1 : (8 + i) / 8 = 1 := by omega
      have e2 : (8 + i) % 8 = i := by omega
      rw [e1, e2]; rfl
    show (if (17 : Nat) = 1 then _ else if (17 : Nat) = 17 then (if (1 : Nat) = 1 then rdPt (pby (some (x, y))) else none) else none) = _
    rw [if_neg (by decide), if_pos rfl, if_pos rfl]
    unfold rdPt
    rw [ex, ey, if_pos (show isPt false x.val y.val = true from isPt_of ha), Ob.toF_of_val, Ob.toF_of_val]
theorem rd_on {len : Nat} {z : Nat → Nat} {a : Ob.Cp} (h : rdOf len z = some a) : Ob.onC a := by
  unfold rdOf at h
  split at h
  · split at h
    · cases h; trivial
    · cases h
  · split at h
    · split at h
      · unfold rdPt at h
        split at h
        · rename_i hp
          cases h
          simp [isPt] at hp
          exact hp.2
        · cases h
      · cases h
    · cases h
theorem pby_of_rd {len : Nat} {z : Nat → Nat} (hz : ∀ i, z i < 256) {a : Ob.Cp} (h : rdOf len z = some a) : plen a = len ∧ ∀ i, i < len → pby a i = z i := by
  unfold rdOf at h
  split at h
  · rename_i h1
    subst h1
    split at h
    · rename_i h0
      cases h
      refine ⟨rfl, fun i hi => ?_⟩
      have : i = 0 := by omega
      rw [this, h0]; rfl
    · cases h
  · split at h
    · rename_i h1
      subst h1
      split at h
      · rename_i h0
        unfold rdPt at h
        split at h
        · rename_i hp
          cases h
          have e := isPt_false hp
          refine ⟨rfl, fun i hi => ?_⟩
          simp only [pby]
          split
          · rename_i hi0
            rw [hi0, h0]
          · rename_i hi0
            rw [← e.1, ← e.2]
            unfold byteOf
            by_cases h8 : i - 1 < 8
            · rw [Nat.div_eq_of_lt h8, Nat.mod_eq_of_lt h8]
              show Ob.byteAt (rdX z) (i - 1) = z i
              unfold rdX
              rw [Ob.byteAt_num _ (fun _ => hz _) _ h8]
              congr 1
              omega
            · have e1 : (i - 1) / 8 = 1 := by omega
              rw [e1]
              show Ob.byteAt (rdY z) ((i - 1) % 8) = z i
              unfold rdY
              rw [Ob.byteAt_num _ (fun _ => hz _) _ (by omega)]
              congr 1
              omega
        · cases h
      · cases h
    · cases h
end Go.Proofs.Ytcgbemnmebgmjab
