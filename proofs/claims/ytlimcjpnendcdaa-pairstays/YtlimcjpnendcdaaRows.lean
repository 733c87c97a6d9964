/-
  No cell of these rows narrows 'for every input' (looked for: loops, veiled, ifaces, maps, wideKeys, modest, calm, conditions, laid).
  DERIVED. THE GIVEN ROWS OF THIS SEAT. 5 by the template 'for every input the law returns true; each argument reads behind the call as it read before'; 0 by the template 'total and deterministic' (their statements: YtlimcjpnendcdaaTotals.lean).
  GIVEN WITH THE SEED: the statements are not yours to turn. If you find one false, say at which input.
  Laid BY PROGRAM, IN A SANDBOX (cutbox-rows.mjs): the forced cells as the released guide's own fill.sh prints them over the translation 1d145a5e86a73908… (all of the seat's roots in one cut). By AI agents, Wed Nov 11 2026. No macro, syntax, notation, axiom, sorry.
-/
import Derived.Test.YtlimcjpnendcdaaChecked
import GoSem.Claim
import GoSem.ClaimJoined
import GoSem.ClaimMapViews
import Derived.JoinedTies
import Derived.KernelRfl
namespace Go.Proofs.Ytlimcjpnendcdaa
/- THE CELL 'sum', in the pinned program and in every row, IS THE sha256 OF THE DUMP (.gsa) THAT YtlimcjpnendcdaaProg.lean LOADS. Nothing in Lean hashes anything: it is a label: what it is worth is what the hold of that sum in a sandbox is worth. -/
noncomputable def Try.pinned : Pinned := { name := "ytlimcjpnendcdaa", sum := "1d145a5e86a739080e8f775293e24a2e33d7d4049d491cd25a8a569e308a88a6", checked := Try.checked }
namespace Rows
def none {H : Type} : Left H := { results := [], args := [] }

/-- 'obollaw04.PairPairs': WHATEVER THE INPUT: true; the input reads as it did. -/
def pairPairsSpec : ChangeSpec := { name := "pairPairs", fn := fun _ => fun
  | [d1, d2] => { results := [.lit (.bool true)], args := [d1, d2] }
  | _ => none }
def pairPairsRow : OpenClaim := { program := "ytlimcjpnendcdaa", sum := "1d145a5e86a739080e8f775293e24a2e33d7d4049d491cd25a8a569e308a88a6", func := "obol/obollaw04.PairPairs", spec := "pairPairs", named := ["math/bits.divideError", "math/bits.overflowError"], apart := false }
def PairPairsSaid : Prop := pairPairsRow.holds Try.pinned (OpenSpec.ofChange pairPairsSpec)

/-- ITS FALSE NEIGHBOUR: 'it returns false'. Refute it at one input. -/
def pairPairsWrong : ChangeSpec := { name := "pairPairs", fn := fun _ => fun
  | [d1, d2] => { results := [.lit (.bool false)], args := [d1, d2] }
  | _ => none }
def PairPairsWrongFalsely : Prop := pairPairsRow.holds Try.pinned (OpenSpec.ofChange pairPairsWrong)

/-- 'obollaw04.PairMultiplies': WHATEVER THE INPUT: true; the input reads as it did. -/
def pairMultipliesSpec : ChangeSpec := { name := "pairMultiplies", fn := fun _ => fun
  | [d1, d2] => { results := [.lit (.bool true)], args := [d1, d2] }
  | _ => none }
def pairMultipliesRow : OpenClaim := { program := "ytlimcjpnendcdaa", sum := "1d145a5e86a739080e8f775293e24a2e33d7d4049d491cd25a8a569e308a88a6", func := "obol/obollaw04.PairMultiplies", spec := "pairMultiplies", named := ["math/bits.divideError", "math/bits.overflowError"], apart := false }
def PairMultipliesSaid : Prop := pairMultipliesRow.holds Try.pinned (OpenSpec.ofChange pairMultipliesSpec)

/-- ITS FALSE NEIGHBOUR: 'it returns false'. Refute it at one input. -/
def pairMultipliesWrong : ChangeSpec := { name := "pairMultiplies", fn := fun _ => fun
  | [d1, d2] => { results := [.lit (.bool false)], args := [d1, d2] }
  | _ => none }
def PairMultipliesWrongFalsely : Prop := pairMultipliesRow.holds Try.pinned (OpenSpec.ofChange pairMultipliesWrong)

/-- 'obollaw04.PairTimes': WHATEVER THE INPUT: true; the input reads as it did. -/
def pairTimesSpec : ChangeSpec := { name := "pairTimes", fn := fun _ => fun
  | [d1, d2, d3] => { results := [.lit (.bool true)], args := [d1, d2, d3] }
  | _ => none }
def pairTimesRow : OpenClaim := { program := "ytlimcjpnendcdaa", sum := "1d145a5e86a739080e8f775293e24a2e33d7d4049d491cd25a8a569e308a88a6", func := "obol/obollaw04.PairTimes", spec := "pairTimes", named := ["math/bits.divideError", "math/bits.overflowError"], apart := false }
def PairTimesSaid : Prop := pairTimesRow.holds Try.pinned (OpenSpec.ofChange pairTimesSpec)

/-- ITS FALSE NEIGHBOUR: 'it returns false'. Refute it at one input. -/
def pairTimesWrong : ChangeSpec := { name := "pairTimes", fn := fun _ => fun
  | [d1, d2, d3] => { results := [.lit (.bool false)], args := [d1, d2, d3] }
  | _ => none }
def PairTimesWrongFalsely : Prop := pairTimesRow.holds Try.pinned (OpenSpec.ofChange pairTimesWrong)

/-- 'obollaw04.PairWalls': WHATEVER THE INPUT: true; the input reads as it did. -/
def pairWallsSpec : ChangeSpec := { name := "pairWalls", fn := fun _ => fun
  | [d] => { results := [.lit (.bool true)], args := [d] }
  | _ => none }
def pairWallsRow : OpenClaim := { program := "ytlimcjpnendcdaa", sum := "1d145a5e86a739080e8f775293e24a2e33d7d4049d491cd25a8a569e308a88a6", func := "obol/obollaw04.PairWalls", spec := "pairWalls", named := ["math/bits.divideError", "math/bits.overflowError"], apart := false }
def PairWallsSaid : Prop := pairWallsRow.holds Try.pinned (OpenSpec.ofChange pairWallsSpec)

/-- ITS FALSE NEIGHBOUR: 'it returns false'. Refute it at one input. -/
def pairWallsWrong : ChangeSpec := { name := "pairWalls", fn := fun _ => fun
  | [d] => { results := [.lit (.bool false)], args := [d] }
  | _ => none }
def PairWallsWrongFalsely : Prop := pairWallsRow.holds Try.pinned (OpenSpec.ofChange pairWallsWrong)

/-- 'obollaw04.PairStays': WHATEVER THE INPUT: true; the input reads as it did. -/
def pairStaysSpec : ChangeSpec := { name := "pairStays", fn := fun _ => fun
  | [d1, d2] => { results := [.lit (.bool true)], args := [d1, d2] }
  | _ => none }
def pairStaysRow : OpenClaim := { program := "ytlimcjpnendcdaa", sum := "1d145a5e86a739080e8f775293e24a2e33d7d4049d491cd25a8a569e308a88a6", func := "obol/obollaw04.PairStays", spec := "pairStays", named := ["math/bits.divideError", "math/bits.overflowError"], apart := false }
def PairStaysSaid : Prop := pairStaysRow.holds Try.pinned (OpenSpec.ofChange pairStaysSpec)

/-- ITS FALSE NEIGHBOUR: 'it returns false'. Refute it at one input. -/
def pairStaysWrong : ChangeSpec := { name := "pairStays", fn := fun _ => fun
  | [d1, d2] => { results := [.lit (.bool false)], args := [d1, d2] }
  | _ => none }
def PairStaysWrongFalsely : Prop := pairStaysRow.holds Try.pinned (OpenSpec.ofChange pairStaysWrong)

/- THE SECOND FORM. 'bulk': how many values and letters a reading holds, each counted each time it is reached (what is shared counts as often as it is met; a slice's spare places count too). A statement '..UptoSaid' is the law's where the arguments, and the package variables that the reading takes, are together of bulk at most 1048576: NARROWER than '..Said'. Prove '..Said' where nothing that the law and all that it calls make is longer than what came in: it says more and counts as full. Else prove '..UptoSaid'. A law counts once. -/
mutual
def uptoBulk {H : Type} : DataW H → Nat
  | .lit (.string bytes) => bytes.length + 1
  | .lit _ => 1
  | .nil => 1
  | .ptr d => uptoBulk d + 1
  | .slice elems spare => uptoBulkAll elems + uptoBulkAll spare + 1
  | .agg parts => uptoBulkAll parts + 1
  | .iface _ d => uptoBulk d + 1
  | .map entries => uptoBulkEntries entries + 1
  | .held _ => 1
def uptoBulkAll {H : Type} : List (DataW H) → Nat
  | [] => 0
  | d :: r => uptoBulk d + uptoBulkAll r
def uptoBulkEntries {H : Type} : List (Lit × DataW H) → Nat
  | [] => 0
  | x :: r => uptoBulkEntry x + uptoBulkEntries r
def uptoBulkEntry {H : Type} : Lit × DataW H → Nat
  | (.string bytes, d) => bytes.length + uptoBulk d + 1
  | (_, d) => uptoBulk d + 1
 end
def uptoSmall : (H : Type) → List (DataW H) → Bool := fun _ ds => decide (uptoBulkAll ds ≤ 1048576)
def OpenSpec.upto (s : _root_.Go.ChangeSpec) : _root_.Go.OpenSpec := { _root_.Go.OpenSpec.ofChange s with cond := some uptoSmall }

/-- 'obollaw04.PairPairs', WHERE WHAT IT READS IS OF BULK AT MOST 1048576: true; the input reads as it did. -/
def pairPairsUptoRow : OpenClaim := { program := "ytlimcjpnendcdaa", sum := "1d145a5e86a739080e8f775293e24a2e33d7d4049d491cd25a8a569e308a88a6", func := "obol/obollaw04.PairPairs", spec := "pairPairs", named := ["math/bits.divideError", "math/bits.overflowError"], apart := false, narrowed := true }
def PairPairsUptoSaid : Prop := pairPairsUptoRow.holds Try.pinned (OpenSpec.upto pairPairsSpec)

/-- 'obollaw04.PairMultiplies', WHERE WHAT IT READS IS OF BULK AT MOST 1048576: true; the input reads as it did. -/
def pairMultipliesUptoRow : OpenClaim := { program := "ytlimcjpnendcdaa", sum := "1d145a5e86a739080e8f775293e24a2e33d7d4049d491cd25a8a569e308a88a6", func := "obol/obollaw04.PairMultiplies", spec := "pairMultiplies", named := ["math/bits.divideError", "math/bits.overflowError"], apart := false, narrowed := true }
def PairMultipliesUptoSaid : Prop := pairMultipliesUptoRow.holds Try.pinned (OpenSpec.upto pairMultipliesSpec)

/-- 'obollaw04.PairTimes', WHERE WHAT IT READS IS OF BULK AT MOST 1048576: true; the input reads as it did. -/
def pairTimesUptoRow : OpenClaim := { program := "ytlimcjpnendcdaa", sum := "1d145a5e86a739080e8f775293e24a2e33d7d4049d491cd25a8a569e308a88a6", func := "obol/obollaw04.PairTimes", spec := "pairTimes", named := ["math/bits.divideError", "math/bits.overflowError"], apart := false, narrowed := true }
def PairTimesUptoSaid : Prop := pairTimesUptoRow.holds Try.pinned (OpenSpec.upto pairTimesSpec)

/-- 'obollaw04.PairWalls', WHERE WHAT IT READS IS OF BULK AT MOST 1048576: true; the input reads as it did. -/
def pairWallsUptoRow : OpenClaim := { program := "ytlimcjpnendcdaa", sum := "1d145a5e86a739080e8f775293e24a2e33d7d4049d491cd25a8a569e308a88a6", func := "obol/obollaw04.PairWalls", spec := "pairWalls", named := ["math/bits.divideError", "math/bits.overflowError"], apart := false, narrowed := true }
def PairWallsUptoSaid : Prop := pairWallsUptoRow.holds Try.pinned (OpenSpec.upto pairWallsSpec)

/-- 'obollaw04.PairStays', WHERE WHAT IT READS IS OF BULK AT MOST 1048576: true; the input reads as it did. -/
def pairStaysUptoRow : OpenClaim := { program := "ytlimcjpnendcdaa", sum := "1d145a5e86a739080e8f775293e24a2e33d7d4049d491cd25a8a569e308a88a6", func := "obol/obollaw04.PairStays", spec := "pairStays", named := ["math/bits.divideError", "math/bits.overflowError"], apart := false, narrowed := true }
def PairStaysUptoSaid : Prop := pairStaysUptoRow.holds Try.pinned (OpenSpec.upto pairStaysSpec)

end Rows
end Go.Proofs.Ytlimcjpnendcdaa
