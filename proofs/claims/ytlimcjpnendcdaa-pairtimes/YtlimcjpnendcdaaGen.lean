/-
  The first point: its multiples are R ones, as it is 4 times another one.
-/
import Derived.Test.YtlimcjpnendcdaaOrder
namespace Ob
set_option linter.unusedVariables false
set_option linter.unusedSimpArgs false

theorem dbl (x y i x' y' : Fin P) (hy : y + y ≠ 0) (hi : (y + y) * i = 1) (h : lin ((3 * (x * x) + 1) * i) x y x = (x', y')) : cadd (some (x, y)) (some (x, y)) = some (x', y') := by
  have e : cadd (some (x, y)) (some (x, y)) = if x = x ∧ y + y = 0 then none else some (lin (slope x y x y) x y x) := rfl
  have e2 : slope x y x y = if x = x then (3 * (x * x) + 1) * finv (y + y) else (y - y) * finv (x - x) := rfl
  rw [e, if_neg (fun h => hy h.2), e2, if_pos rfl, finv_unique hi, h]

def genP : Cp := some (247390119040843104, 830327839767444578)
def genH : Cp := some (104296042878426114, 580173159433492954)
theorem onC_gen : onC genP := by show (830327839767444578 : Fin P) * 830327839767444578 = 247390119040843104 * 247390119040843104 * 247390119040843104 + 247390119040843104; decide +kernel
theorem onC_half : onC genH := by show (580173159433492954 : Fin P) * 580173159433492954 = 104296042878426114 * 104296042878426114 * 104296042878426114 + 104296042878426114; decide +kernel
theorem dbl_half : cadd genH genH = some (640511947306143295, 19338598086336978) := dbl _ _ 793798184360759099 _ _ (by decide +kernel) (by decide +kernel) (by decide +kernel)
theorem dbl_half2 : cadd (some (640511947306143295, 19338598086336978)) (some (640511947306143295, 19338598086336978)) = genP := dbl _ _ 646402724757009163 _ _ (by decide +kernel) (by decide +kernel) (by decide +kernel)
theorem four_half : cmul genH 4 = genP := by
  have e : (4 : Nat) = 2 * 2 := rfl
  rw [e, ← cmul_mul onC_half, cmul_two, cmul_two, dbl_half, dbl_half2]
theorem gen_order : cmul genP 288230376287764481 = none := by
  have e : P + 1 = 4 * 288230376287764481 := by decide +kernel
  have h := order onC_half
  rw [e] at h
  rw [← four_half, cmul_mul onC_half]
  exact h
theorem gen_two : ∃ a, cadd genP genP = some a := by
  have e : cadd genP genP = if (247390119040843104 : Fin P) = 247390119040843104 ∧ (830327839767444578 : Fin P) + 830327839767444578 = 0 then none else some (lin (slope 247390119040843104 830327839767444578 247390119040843104 830327839767444578) 247390119040843104 830327839767444578 247390119040843104) := rfl
  rw [e, if_neg (fun h => absurd h.2 (by decide +kernel))]
  exact ⟨_, rfl⟩
end Ob
