/-
  No cell of these rows narrows 'for every input' (looked for: loops, veiled, ifaces, maps, wideKeys, modest, calm, conditions, laid).
  DERIVED. THE GIVEN ROWS OF THIS SEAT. 6 by the template 'for every input the law returns true; each argument reads behind the call as it read before'; 0 by the template 'total and deterministic' (their statements: YtgjpdamojfkpiaaTotals.lean).
  GIVEN WITH THE SEED: the statements are not yours to turn. If you find one false, say at which input.
  Laid BY PROGRAM, IN A SANDBOX (cutbox-rows.mjs): the forced cells as the released guide's own fill.sh prints them over the translation f031e5c1663c47b6… (all of the seat's roots in one cut). By AI agents, Wed Nov 11 2026. No macro, syntax, notation, axiom, sorry.
-/
import Derived.Test.YtgjpdamojfkpiaaChecked
import GoSem.Claim
import GoSem.ClaimJoined
import GoSem.ClaimMapViews
import Derived.JoinedTies
import Derived.KernelRfl
namespace Go.Proofs.Ytgjpdamojfkpiaa
/- THE CELL 'sum', in the pinned program and in every row, IS THE sha256 OF THE DUMP (.gsa) THAT YtgjpdamojfkpiaaProg.lean LOADS. Nothing in Lean hashes anything: it is a label: what it is worth is what the hold of that sum in a sandbox is worth. -/
noncomputable def Try.pinned : Pinned := { name := "ytgjpdamojfkpiaa", sum := "f031e5c1663c47b6eed6bdd8a27c70b39ff9201764d12114880f9e3a32606961", checked := Try.checked }
namespace Rows
def none {H : Type} : Left H := { results := [], args := [] }

/-- 'obollaw10.CubeTurns': WHATEVER THE INPUT: true; the input reads as it did. -/
def cubeTurnsSpec : ChangeSpec := { name := "cubeTurns", fn := fun _ => fun
  | [d1, d2] => { results := [.lit (.bool true)], args := [d1, d2] }
  | _ => none }
def cubeTurnsRow : OpenClaim := { program := "ytgjpdamojfkpiaa", sum := "f031e5c1663c47b6eed6bdd8a27c70b39ff9201764d12114880f9e3a32606961", func := "obol/obollaw10.CubeTurns", spec := "cubeTurns", named := ["math/bits.divideError", "math/bits.overflowError"], apart := false }
def CubeTurnsSaid : Prop := cubeTurnsRow.holds Try.pinned (OpenSpec.ofChange cubeTurnsSpec)

/-- ITS FALSE NEIGHBOUR: 'it returns false'. Refute it at one input. -/
def cubeTurnsWrong : ChangeSpec := { name := "cubeTurns", fn := fun _ => fun
  | [d1, d2] => { results := [.lit (.bool false)], args := [d1, d2] }
  | _ => none }
def CubeTurnsWrongFalsely : Prop := cubeTurnsRow.holds Try.pinned (OpenSpec.ofChange cubeTurnsWrong)

/-- 'obollaw10.CubeBacks': WHATEVER THE INPUT: true; the input reads as it did. -/
def cubeBacksSpec : ChangeSpec := { name := "cubeBacks", fn := fun _ => fun
  | [d1, d2] => { results := [.lit (.bool true)], args := [d1, d2] }
  | _ => none }
def cubeBacksRow : OpenClaim := { program := "ytgjpdamojfkpiaa", sum := "f031e5c1663c47b6eed6bdd8a27c70b39ff9201764d12114880f9e3a32606961", func := "obol/obollaw10.CubeBacks", spec := "cubeBacks", named := ["math/bits.divideError", "math/bits.overflowError"], apart := false }
def CubeBacksSaid : Prop := cubeBacksRow.holds Try.pinned (OpenSpec.ofChange cubeBacksSpec)

/-- ITS FALSE NEIGHBOUR: 'it returns false'. Refute it at one input. -/
def cubeBacksWrong : ChangeSpec := { name := "cubeBacks", fn := fun _ => fun
  | [d1, d2] => { results := [.lit (.bool false)], args := [d1, d2] }
  | _ => none }
def CubeBacksWrongFalsely : Prop := cubeBacksRow.holds Try.pinned (OpenSpec.ofChange cubeBacksWrong)

/-- 'obollaw10.CubeHashes': WHATEVER THE INPUT: true; the input reads as it did. -/
def cubeHashesSpec : ChangeSpec := { name := "cubeHashes", fn := fun _ => fun
  | [d1, d2, d3] => { results := [.lit (.bool true)], args := [d1, d2, d3] }
  | _ => none }
def cubeHashesRow : OpenClaim := { program := "ytgjpdamojfkpiaa", sum := "f031e5c1663c47b6eed6bdd8a27c70b39ff9201764d12114880f9e3a32606961", func := "obol/obollaw10.CubeHashes", spec := "cubeHashes", named := ["math/bits.divideError", "math/bits.overflowError"], apart := false }
def CubeHashesSaid : Prop := cubeHashesRow.holds Try.pinned (OpenSpec.ofChange cubeHashesSpec)

/-- ITS FALSE NEIGHBOUR: 'it returns false'. Refute it at one input. -/
def cubeHashesWrong : ChangeSpec := { name := "cubeHashes", fn := fun _ => fun
  | [d1, d2, d3] => { results := [.lit (.bool false)], args := [d1, d2, d3] }
  | _ => none }
def CubeHashesWrongFalsely : Prop := cubeHashesRow.holds Try.pinned (OpenSpec.ofChange cubeHashesWrong)

/-- 'obollaw10.CubeClashes': WHATEVER THE INPUT: true; the input reads as it did. -/
def cubeClashesSpec : ChangeSpec := { name := "cubeClashes", fn := fun _ => fun
  | [d1, d2] => { results := [.lit (.bool true)], args := [d1, d2] }
  | _ => none }
def cubeClashesRow : OpenClaim := { program := "ytgjpdamojfkpiaa", sum := "f031e5c1663c47b6eed6bdd8a27c70b39ff9201764d12114880f9e3a32606961", func := "obol/obollaw10.CubeClashes", spec := "cubeClashes", named := ["math/bits.divideError", "math/bits.overflowError"], apart := false }
def CubeClashesSaid : Prop := cubeClashesRow.holds Try.pinned (OpenSpec.ofChange cubeClashesSpec)

/-- ITS FALSE NEIGHBOUR: 'it returns false'. Refute it at one input. -/
def cubeClashesWrong : ChangeSpec := { name := "cubeClashes", fn := fun _ => fun
  | [d1, d2] => { results := [.lit (.bool false)], args := [d1, d2] }
  | _ => none }
def CubeClashesWrongFalsely : Prop := cubeClashesRow.holds Try.pinned (OpenSpec.ofChange cubeClashesWrong)

/-- 'obollaw10.CubePairs': WHATEVER THE INPUT: true; the input reads as it did. -/
def cubePairsSpec : ChangeSpec := { name := "cubePairs", fn := fun _ => fun
  | [d1, d2] => { results := [.lit (.bool true)], args := [d1, d2] }
  | _ => none }
def cubePairsRow : OpenClaim := { program := "ytgjpdamojfkpiaa", sum := "f031e5c1663c47b6eed6bdd8a27c70b39ff9201764d12114880f9e3a32606961", func := "obol/obollaw10.CubePairs", spec := "cubePairs", named := ["math/bits.divideError", "math/bits.overflowError"], apart := false }
def CubePairsSaid : Prop := cubePairsRow.holds Try.pinned (OpenSpec.ofChange cubePairsSpec)

/-- ITS FALSE NEIGHBOUR: 'it returns false'. Refute it at one input. -/
def cubePairsWrong : ChangeSpec := { name := "cubePairs", fn := fun _ => fun
  | [d1, d2] => { results := [.lit (.bool false)], args := [d1, d2] }
  | _ => none }
def CubePairsWrongFalsely : Prop := cubePairsRow.holds Try.pinned (OpenSpec.ofChange cubePairsWrong)

/-- 'obollaw10.CubeOne': WHATEVER THE INPUT: true; the input reads as it did. -/
def cubeOneSpec : ChangeSpec := { name := "cubeOne", fn := fun _ => fun
  | [d1, d2, d3] => { results := [.lit (.bool true)], args := [d1, d2, d3] }
  | _ => none }
def cubeOneRow : OpenClaim := { program := "ytgjpdamojfkpiaa", sum := "f031e5c1663c47b6eed6bdd8a27c70b39ff9201764d12114880f9e3a32606961", func := "obol/obollaw10.CubeOne", spec := "cubeOne", named := ["math/bits.divideError", "math/bits.overflowError"], apart := false }
def CubeOneSaid : Prop := cubeOneRow.holds Try.pinned (OpenSpec.ofChange cubeOneSpec)

/-- ITS FALSE NEIGHBOUR: 'it returns false'. Refute it at one input. -/
def cubeOneWrong : ChangeSpec := { name := "cubeOne", fn := fun _ => fun
  | [d1, d2, d3] => { results := [.lit (.bool false)], args := [d1, d2, d3] }
  | _ => none }
def CubeOneWrongFalsely : Prop := cubeOneRow.holds Try.pinned (OpenSpec.ofChange cubeOneWrong)

/- THE SECOND FORM. 'bulk': how many values and letters a reading holds, each counted each time it is reached (what is shared counts as often as it is met; a slice's spare places count too). A statement '..UptoSaid' is the law's where the arguments, and the package variables that the reading takes, are together of bulk at most 1048576: NARROWER than '..Said'. Prove '..Said' where nothing that the law and all that it calls make is longer than what came in: it says more and counts as full. Else prove '..UptoSaid'. A law counts once. -/
mutual
def uptoBulk {H : Type} : DataW H → Nat
  | .lit (.string bytes) => bytes.length + 1
  | .lit _ => 1
  | .nil => 1
  | .ptr d => uptoBulk d + 1
  | .slice elems spare => uptoBulkAll elems + uptoBulkAll spare + 1
  | .agg parts => uptoBulkAll parts + 1
  | .iface _ d => uptoBulk d + 1
  | .map entries => uptoBulkEntries entries + 1
  | .held _ => 1
def uptoBulkAll {H : Type} : List (DataW H) → Nat
  | [] => 0
  | d :: r => uptoBulk d + uptoBulkAll r
def uptoBulkEntries {H : Type} : List (Lit × DataW H) → Nat
  | [] => 0
  | x :: r => uptoBulkEntry x + uptoBulkEntries r
def uptoBulkEntry {H : Type} : Lit × DataW H → Nat
  | (.string bytes, d) => bytes.length + uptoBulk d + 1
  | (_, d) => uptoBulk d + 1
 end
def uptoSmall : (H : Type) → List (DataW H) → Bool := fun _ ds => decide (uptoBulkAll ds ≤ 1048576)
def OpenSpec.upto (s : _root_.Go.ChangeSpec) : _root_.Go.OpenSpec := { _root_.Go.OpenSpec.ofChange s with cond := some uptoSmall }

/-- 'obollaw10.CubeTurns', WHERE WHAT IT READS IS OF BULK AT MOST 1048576: true; the input reads as it did. -/
def cubeTurnsUptoRow : OpenClaim := { program := "ytgjpdamojfkpiaa", sum := "f031e5c1663c47b6eed6bdd8a27c70b39ff9201764d12114880f9e3a32606961", func := "obol/obollaw10.CubeTurns", spec := "cubeTurns", named := ["math/bits.divideError", "math/bits.overflowError"], apart := false, narrowed := true }
def CubeTurnsUptoSaid : Prop := cubeTurnsUptoRow.holds Try.pinned (OpenSpec.upto cubeTurnsSpec)

/-- 'obollaw10.CubeBacks', WHERE WHAT IT READS IS OF BULK AT MOST 1048576: true; the input reads as it did. -/
def cubeBacksUptoRow : OpenClaim := { program := "ytgjpdamojfkpiaa", sum := "f031e5c1663c47b6eed6bdd8a27c70b39ff9201764d12114880f9e3a32606961", func := "obol/obollaw10.CubeBacks", spec := "cubeBacks", named := ["math/bits.divideError", "math/bits.overflowError"], apart := false, narrowed := true }
def CubeBacksUptoSaid : Prop := cubeBacksUptoRow.holds Try.pinned (OpenSpec.upto cubeBacksSpec)

/-- 'obollaw10.CubeHashes', WHERE WHAT IT READS IS OF BULK AT MOST 1048576: true; the input reads as it did. -/
def cubeHashesUptoRow : OpenClaim := { program := "ytgjpdamojfkpiaa", sum := "f031e5c1663c47b6eed6bdd8a27c70b39ff9201764d12114880f9e3a32606961", func := "obol/obollaw10.CubeHashes", spec := "cubeHashes", named := ["math/bits.divideError", "math/bits.overflowError"], apart := false, narrowed := true }
def CubeHashesUptoSaid : Prop := cubeHashesUptoRow.holds Try.pinned (OpenSpec.upto cubeHashesSpec)

/-- 'obollaw10.CubeClashes', WHERE WHAT IT READS IS OF BULK AT MOST 1048576: true; the input reads as it did. -/
def cubeClashesUptoRow : OpenClaim := { program := "ytgjpdamojfkpiaa", sum := "f031e5c1663c47b6eed6bdd8a27c70b39ff9201764d12114880f9e3a32606961", func := "obol/obollaw10.CubeClashes", spec := "cubeClashes", named := ["math/bits.divideError", "math/bits.overflowError"], apart := false, narrowed := true }
def CubeClashesUptoSaid : Prop := cubeClashesUptoRow.holds Try.pinned (OpenSpec.upto cubeClashesSpec)

/-- 'obollaw10.CubePairs', WHERE WHAT IT READS IS OF BULK AT MOST 1048576: true; the input reads as it did. -/
def cubePairsUptoRow : OpenClaim := { program := "ytgjpdamojfkpiaa", sum := "f031e5c1663c47b6eed6bdd8a27c70b39ff9201764d12114880f9e3a32606961", func := "obol/obollaw10.CubePairs", spec := "cubePairs", named := ["math/bits.divideError", "math/bits.overflowError"], apart := false, narrowed := true }
def CubePairsUptoSaid : Prop := cubePairsUptoRow.holds Try.pinned (OpenSpec.upto cubePairsSpec)

/-- 'obollaw10.CubeOne', WHERE WHAT IT READS IS OF BULK AT MOST 1048576: true; the input reads as it did. -/
def cubeOneUptoRow : OpenClaim := { program := "ytgjpdamojfkpiaa", sum := "f031e5c1663c47b6eed6bdd8a27c70b39ff9201764d12114880f9e3a32606961", func := "obol/obollaw10.CubeOne", spec := "cubeOne", named := ["math/bits.divideError", "math/bits.overflowError"], apart := false, narrowed := true }
def CubeOneUptoSaid : Prop := cubeOneUptoRow.holds Try.pinned (OpenSpec.upto cubeOneSpec)

end Rows
end Go.Proofs.Ytgjpdamojfkpiaa
