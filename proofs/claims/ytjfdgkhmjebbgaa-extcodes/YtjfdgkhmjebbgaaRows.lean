/-
  No cell of these rows narrows 'for every input' (looked for: loops, veiled, ifaces, maps, wideKeys, modest, calm, conditions, laid).
  DERIVED. THE GIVEN ROWS OF THIS SEAT. 6 by the template 'for every input the law returns true; each argument reads behind the call as it read before'; 0 by the template 'total and deterministic' (their statements: YtjfdgkhmjebbgaaTotals.lean).
  GIVEN WITH THE SEED: the statements are not yours to turn. If you find one false, say at which input.
  Laid BY PROGRAM, IN A SANDBOX (cutbox-rows.mjs): the forced cells as the released guide's own fill.sh prints them over the translation abbbbe97db985e66… (all of the seat's roots in one cut). By AI agents, Wed Nov 11 2026. No macro, syntax, notation, axiom, sorry.
-/
import Derived.Test.YtjfdgkhmjebbgaaChecked
import GoSem.Claim
import GoSem.ClaimJoined
import GoSem.ClaimMapViews
import Derived.JoinedTies
import Derived.KernelRfl
namespace Go.Proofs.Ytjfdgkhmjebbgaa
/- THE CELL 'sum', in the pinned program and in every row, IS THE sha256 OF THE DUMP (.gsa) THAT YtjfdgkhmjebbgaaProg.lean LOADS. Nothing in Lean hashes anything: it is a label: what it is worth is what the hold of that sum in a sandbox is worth. -/
noncomputable def Try.pinned : Pinned := { name := "ytjfdgkhmjebbgaa", sum := "abbbbe97db985e668ada8d492b7ca26e5b6e96ba4b4dff75f0d16f1976a2ad34", checked := Try.checked }
namespace Rows
def none {H : Type} : Left H := { results := [], args := [] }

/-- 'obollaw02.ExtAdds': WHATEVER THE INPUT: true; the input reads as it did. -/
def extAddsSpec : ChangeSpec := { name := "extAdds", fn := fun _ => fun
  | [d1, d2] => { results := [.lit (.bool true)], args := [d1, d2] }
  | _ => none }
def extAddsRow : OpenClaim := { program := "ytjfdgkhmjebbgaa", sum := "abbbbe97db985e668ada8d492b7ca26e5b6e96ba4b4dff75f0d16f1976a2ad34", func := "obol/obollaw02.ExtAdds", spec := "extAdds", named := ["math/bits.divideError", "math/bits.overflowError"], apart := false }
def ExtAddsSaid : Prop := extAddsRow.holds Try.pinned (OpenSpec.ofChange extAddsSpec)

/-- ITS FALSE NEIGHBOUR: 'it returns false'. Refute it at one input. -/
def extAddsWrong : ChangeSpec := { name := "extAdds", fn := fun _ => fun
  | [d1, d2] => { results := [.lit (.bool false)], args := [d1, d2] }
  | _ => none }
def ExtAddsWrongFalsely : Prop := extAddsRow.holds Try.pinned (OpenSpec.ofChange extAddsWrong)

/-- 'obollaw02.ExtMuls': WHATEVER THE INPUT: true; the input reads as it did. -/
def extMulsSpec : ChangeSpec := { name := "extMuls", fn := fun _ => fun
  | [d1, d2] => { results := [.lit (.bool true)], args := [d1, d2] }
  | _ => none }
def extMulsRow : OpenClaim := { program := "ytjfdgkhmjebbgaa", sum := "abbbbe97db985e668ada8d492b7ca26e5b6e96ba4b4dff75f0d16f1976a2ad34", func := "obol/obollaw02.ExtMuls", spec := "extMuls", named := ["math/bits.divideError", "math/bits.overflowError"], apart := false }
def ExtMulsSaid : Prop := extMulsRow.holds Try.pinned (OpenSpec.ofChange extMulsSpec)

/-- ITS FALSE NEIGHBOUR: 'it returns false'. Refute it at one input. -/
def extMulsWrong : ChangeSpec := { name := "extMuls", fn := fun _ => fun
  | [d1, d2] => { results := [.lit (.bool false)], args := [d1, d2] }
  | _ => none }
def ExtMulsWrongFalsely : Prop := extMulsRow.holds Try.pinned (OpenSpec.ofChange extMulsWrong)

/-- 'obollaw02.ExtInverts': WHATEVER THE INPUT: true; the input reads as it did. -/
def extInvertsSpec : ChangeSpec := { name := "extInverts", fn := fun _ => fun
  | [d] => { results := [.lit (.bool true)], args := [d] }
  | _ => none }
def extInvertsRow : OpenClaim := { program := "ytjfdgkhmjebbgaa", sum := "abbbbe97db985e668ada8d492b7ca26e5b6e96ba4b4dff75f0d16f1976a2ad34", func := "obol/obollaw02.ExtInverts", spec := "extInverts", named := ["math/bits.divideError", "math/bits.overflowError"], apart := false }
def ExtInvertsSaid : Prop := extInvertsRow.holds Try.pinned (OpenSpec.ofChange extInvertsSpec)

/-- ITS FALSE NEIGHBOUR: 'it returns false'. Refute it at one input. -/
def extInvertsWrong : ChangeSpec := { name := "extInverts", fn := fun _ => fun
  | [d] => { results := [.lit (.bool false)], args := [d] }
  | _ => none }
def ExtInvertsWrongFalsely : Prop := extInvertsRow.holds Try.pinned (OpenSpec.ofChange extInvertsWrong)

/-- 'obollaw02.ExtPows': WHATEVER THE INPUT: true; the input reads as it did. -/
def extPowsSpec : ChangeSpec := { name := "extPows", fn := fun _ => fun
  | [d1, d2] => { results := [.lit (.bool true)], args := [d1, d2] }
  | _ => none }
def extPowsRow : OpenClaim := { program := "ytjfdgkhmjebbgaa", sum := "abbbbe97db985e668ada8d492b7ca26e5b6e96ba4b4dff75f0d16f1976a2ad34", func := "obol/obollaw02.ExtPows", spec := "extPows", named := ["math/bits.divideError", "math/bits.overflowError"], apart := false }
def ExtPowsSaid : Prop := extPowsRow.holds Try.pinned (OpenSpec.ofChange extPowsSpec)

/-- ITS FALSE NEIGHBOUR: 'it returns false'. Refute it at one input. -/
def extPowsWrong : ChangeSpec := { name := "extPows", fn := fun _ => fun
  | [d1, d2] => { results := [.lit (.bool false)], args := [d1, d2] }
  | _ => none }
def ExtPowsWrongFalsely : Prop := extPowsRow.holds Try.pinned (OpenSpec.ofChange extPowsWrong)

/-- 'obollaw02.ExtCodes': WHATEVER THE INPUT: true; the input reads as it did. -/
def extCodesSpec : ChangeSpec := { name := "extCodes", fn := fun _ => fun
  | [d1, d2] => { results := [.lit (.bool true)], args := [d1, d2] }
  | _ => none }
def extCodesRow : OpenClaim := { program := "ytjfdgkhmjebbgaa", sum := "abbbbe97db985e668ada8d492b7ca26e5b6e96ba4b4dff75f0d16f1976a2ad34", func := "obol/obollaw02.ExtCodes", spec := "extCodes", named := ["math/bits.divideError", "math/bits.overflowError"], apart := false }
def ExtCodesSaid : Prop := extCodesRow.holds Try.pinned (OpenSpec.ofChange extCodesSpec)

/-- ITS FALSE NEIGHBOUR: 'it returns false'. Refute it at one input. -/
def extCodesWrong : ChangeSpec := { name := "extCodes", fn := fun _ => fun
  | [d1, d2] => { results := [.lit (.bool false)], args := [d1, d2] }
  | _ => none }
def ExtCodesWrongFalsely : Prop := extCodesRow.holds Try.pinned (OpenSpec.ofChange extCodesWrong)

/-- 'obollaw02.ExtField': WHATEVER THE INPUT: true; the input reads as it did. -/
def extFieldSpec : ChangeSpec := { name := "extField", fn := fun _ => fun
  | [d1, d2, d3] => { results := [.lit (.bool true)], args := [d1, d2, d3] }
  | _ => none }
def extFieldRow : OpenClaim := { program := "ytjfdgkhmjebbgaa", sum := "abbbbe97db985e668ada8d492b7ca26e5b6e96ba4b4dff75f0d16f1976a2ad34", func := "obol/obollaw02.ExtField", spec := "extField", named := ["math/bits.divideError", "math/bits.overflowError"], apart := false }
def ExtFieldSaid : Prop := extFieldRow.holds Try.pinned (OpenSpec.ofChange extFieldSpec)

/-- ITS FALSE NEIGHBOUR: 'it returns false'. Refute it at one input. -/
def extFieldWrong : ChangeSpec := { name := "extField", fn := fun _ => fun
  | [d1, d2, d3] => { results := [.lit (.bool false)], args := [d1, d2, d3] }
  | _ => none }
def ExtFieldWrongFalsely : Prop := extFieldRow.holds Try.pinned (OpenSpec.ofChange extFieldWrong)

/- THE SECOND FORM. 'bulk': how many values and letters a reading holds, each counted each time it is reached (what is shared counts as often as it is met; a slice's spare places count too). A statement '..UptoSaid' is the law's where the arguments, and the package variables that the reading takes, are together of bulk at most 1048576: NARROWER than '..Said'. Prove '..Said' where nothing that the law and all that it calls make is longer than what came in: it says more and counts as full. Else prove '..UptoSaid'. A law counts once. -/
mutual
def uptoBulk {H : Type} : DataW H → Nat
  | .lit (.string bytes) => bytes.length + 1
  | .lit _ => 1
  | .nil => 1
  | .ptr d => uptoBulk d + 1
  | .slice elems spare => uptoBulkAll elems + uptoBulkAll spare + 1
  | .agg parts => uptoBulkAll parts + 1
  | .iface _ d => uptoBulk d + 1
  | .map entries => uptoBulkEntries entries + 1
  | .held _ => 1
def uptoBulkAll {H : Type} : List (DataW H) → Nat
  | [] => 0
  | d :: r => uptoBulk d + uptoBulkAll r
def uptoBulkEntries {H : Type} : List (Lit × DataW H) → Nat
  | [] => 0
  | x :: r => uptoBulkEntry x + uptoBulkEntries r
def uptoBulkEntry {H : Type} : Lit × DataW H → Nat
  | (.string bytes, d) => bytes.length + uptoBulk d + 1
  | (_, d) => uptoBulk d + 1
 end
def uptoSmall : (H : Type) → List (DataW H) → Bool := fun _ ds => decide (uptoBulkAll ds ≤ 1048576)
def OpenSpec.upto (s : _root_.Go.ChangeSpec) : _root_.Go.OpenSpec := { _root_.Go.OpenSpec.ofChange s with cond := some uptoSmall }

/-- 'obollaw02.ExtAdds', WHERE WHAT IT READS IS OF BULK AT MOST 1048576: true; the input reads as it did. -/
def extAddsUptoRow : OpenClaim := { program := "ytjfdgkhmjebbgaa", sum := "abbbbe97db985e668ada8d492b7ca26e5b6e96ba4b4dff75f0d16f1976a2ad34", func := "obol/obollaw02.ExtAdds", spec := "extAdds", named := ["math/bits.divideError", "math/bits.overflowError"], apart := false, narrowed := true }
def ExtAddsUptoSaid : Prop := extAddsUptoRow.holds Try.pinned (OpenSpec.upto extAddsSpec)

/-- 'obollaw02.ExtMuls', WHERE WHAT IT READS IS OF BULK AT MOST 1048576: true; the input reads as it did. -/
def extMulsUptoRow : OpenClaim := { program := "ytjfdgkhmjebbgaa", sum := "abbbbe97db985e668ada8d492b7ca26e5b6e96ba4b4dff75f0d16f1976a2ad34", func := "obol/obollaw02.ExtMuls", spec := "extMuls", named := ["math/bits.divideError", "math/bits.overflowError"], apart := false, narrowed := true }
def ExtMulsUptoSaid : Prop := extMulsUptoRow.holds Try.pinned (OpenSpec.upto extMulsSpec)

/-- 'obollaw02.ExtInverts', WHERE WHAT IT READS IS OF BULK AT MOST 1048576: true; the input reads as it did. -/
def extInvertsUptoRow : OpenClaim := { program := "ytjfdgkhmjebbgaa", sum := "abbbbe97db985e668ada8d492b7ca26e5b6e96ba4b4dff75f0d16f1976a2ad34", func := "obol/obollaw02.ExtInverts", spec := "extInverts", named := ["math/bits.divideError", "math/bits.overflowError"], apart := false, narrowed := true }
def ExtInvertsUptoSaid : Prop := extInvertsUptoRow.holds Try.pinned (OpenSpec.upto extInvertsSpec)

/-- 'obollaw02.ExtPows', WHERE WHAT IT READS IS OF BULK AT MOST 1048576: true; the input reads as it did. -/
def extPowsUptoRow : OpenClaim := { program := "ytjfdgkhmjebbgaa", sum := "abbbbe97db985e668ada8d492b7ca26e5b6e96ba4b4dff75f0d16f1976a2ad34", func := "obol/obollaw02.ExtPows", spec := "extPows", named := ["math/bits.divideError", "math/bits.overflowError"], apart := false, narrowed := true }
def ExtPowsUptoSaid : Prop := extPowsUptoRow.holds Try.pinned (OpenSpec.upto extPowsSpec)

/-- 'obollaw02.ExtCodes', WHERE WHAT IT READS IS OF BULK AT MOST 1048576: true; the input reads as it did. -/
def extCodesUptoRow : OpenClaim := { program := "ytjfdgkhmjebbgaa", sum := "abbbbe97db985e668ada8d492b7ca26e5b6e96ba4b4dff75f0d16f1976a2ad34", func := "obol/obollaw02.ExtCodes", spec := "extCodes", named := ["math/bits.divideError", "math/bits.overflowError"], apart := false, narrowed := true }
def ExtCodesUptoSaid : Prop := extCodesUptoRow.holds Try.pinned (OpenSpec.upto extCodesSpec)

/-- 'obollaw02.ExtField', WHERE WHAT IT READS IS OF BULK AT MOST 1048576: true; the input reads as it did. -/
def extFieldUptoRow : OpenClaim := { program := "ytjfdgkhmjebbgaa", sum := "abbbbe97db985e668ada8d492b7ca26e5b6e96ba4b4dff75f0d16f1976a2ad34", func := "obol/obollaw02.ExtField", spec := "extField", named := ["math/bits.divideError", "math/bits.overflowError"], apart := false, narrowed := true }
def ExtFieldUptoSaid : Prop := extFieldUptoRow.holds Try.pinned (OpenSpec.upto extFieldSpec)

end Rows
end Go.Proofs.Ytjfdgkhmjebbgaa
