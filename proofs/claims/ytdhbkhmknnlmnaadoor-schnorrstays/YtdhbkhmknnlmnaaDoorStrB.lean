/-
  Bytes told as strings.
-/
import Derived.Test.YtdhbkhmknnlmnaaDoorJ2
import Derived.Lib.Bytes
namespace Go.Proofs.YtdhbkhmknnlmnaaDoor
open Go.RowKit Go.Proofs
set_option linter.unusedVariables false
set_option linter.unusedSimpArgs false

theorem src_str {w : World} {a : Option Addr} {n : Nat} {z : Nat → Nat} (h : Src w a n z) (cap : Nat) : (convert 34 9 (.slice a n cap)).run Tryd.prog w = .ok (.string (strOfNums (nums z n))) w := by
  by_cases h0 : n = 0
  · subst h0
    rw [run_convert_bytes_string w 34 9 5 a 0 cap Tryd.underlying34 Tryd.underlying5 Tryd.underlying9]
    cases a with
    | none => simp [Conv.bytesToString]; rfl
    | some x =>
      rw [run_bytesToString w x 0 cap [] (by simpa using run_loadCells_list (P := Tryd.prog) w x [] (by simp))]
      rfl
  · rcases h with h | ⟨b, off, rfl, hB⟩
    · exact absurd h h0
    · exact bys_str b off n cap z w hB

/-- A string of bytes. -/
def bst (z : Nat → Nat) (n : Nat) : ByteArray := strOfNums (nums z n)
theorem bst_size (z : Nat → Nat) (n : Nat) : (bst z n).size = n := by unfold bst; rw [strOfNums_size]; simp [nums]
theorem bst_congr {f g : Nat → Nat} {n : Nat} (h : ∀ i, i < n → f i = g i) : bst f n = bst g n := by
  unfold bst
  rw [nums_congr _ _ _ h]
theorem bst_inj {f g : Nat → Nat} {n : Nat} (hf : ∀ i, i < n → f i < 256) (hg : ∀ i, i < n → g i < 256) (h : bst f n = bst g n) : ∀ i, i < n → f i = g i := fun i hi => by
  have h1 : (strOfNums (nums f n)).data.toList = (strOfNums (nums g n)).data.toList := by
    have : strOfNums (nums f n) = strOfNums (nums g n) := h
    rw [this]
  rw [strOfNums_data, strOfNums_data] at h1
  have h2 := congrArg (·[i]?) h1
  simp only [nums, List.map_map, List.getElem?_map, List.getElem?_range hi, Option.map_some, Function.comp, Option.some.injEq, Int.toNat_natCast] at h2
  have h3 := congrArg UInt8.toNat h2
  rw [UInt8.toNat_ofNat_of_lt' (hf i hi), UInt8.toNat_ofNat_of_lt' (hg i hi)] at h3
  exact h3
theorem bst_join (f g : Nat → Nat) (n m : Nat) : bst f n ++ bst g m = bst (fun j => if j < n then f j else g (j - n)) (n + m) := by
  unfold bst
  rw [strOfNums_append, nums_add _ n m]
  congr 2
  · exact nums_congr _ _ _ fun i hi => by rw [if_pos hi]
  · exact nums_congr _ _ _ fun i hi => by rw [if_neg (by omega), show n + i - n = i by omega]
end Go.Proofs.YtdhbkhmknnlmnaaDoor
