/-
  NARROWER THAN 'FOR EVERY INPUT', by the rows' own cells (each row's printed sentence says how): SchnorrPoints: laid · SchnorrSigns: laid · SchnorrVerifies: laid · SchnorrTurns: laid · SchnorrHolds: laid · SchnorrStays: laid.
  DERIVED. THE GIVEN ROWS OF THIS SEAT. 6 by the template 'for every input the law returns true; each argument reads behind the call as it read before'; 0 by the template 'total and deterministic' (their statements: YtdhbkhmknnlmnaaDoorTotals.lean).
  GIVEN WITH THE SEED: the statements are not yours to turn. If you find one false, say at which input.
  Laid BY PROGRAM, IN A SANDBOX (cutbox-rows.mjs): the forced cells as the released guide's own fill.sh prints them over the translation e8914bb49350e6b0… (all of the seat's roots in one cut). By AI agents, Wed Nov 11 2026. No macro, syntax, notation, axiom, sorry.
-/
import Derived.Test.YtdhbkhmknnlmnaaDoorChecked
import GoSem.Claim
import GoSem.ClaimJoined
import GoSem.ClaimMapViews
import Derived.JoinedTies
import Derived.KernelRfl
namespace Go.Proofs.YtdhbkhmknnlmnaaDoor
/- THE CELL 'sum', in the pinned program and in every row, IS THE sha256 OF THE DUMP (.gsa) THAT YtdhbkhmknnlmnaaDoorProg.lean LOADS. Nothing in Lean hashes anything: it is a label: what it is worth is what the hold of that sum in a sandbox is worth. -/
noncomputable def Tryd.pinned : Pinned := { name := "ytdhbkhmknnlmnaadoor", sum := "e8914bb49350e6b0b6897cb7a79bd3b3049aaa5fd9b0368a762780112599622e", checked := Tryd.checked }
namespace Rows
def none {H : Type} : Left H := { results := [], args := [] }

/- WHAT THE LISTED PACKAGE-LEVEL VARIABLES READ AS WHEN THE CALL BEGINS. Each datum BY PROGRAM (the guide's laid-datum.mjs) off the statement by which the dump's own 'gosem.cut.vars' lays the variable. In a bare row this is a premise. The card (YtdhbkhmknnlmnaaDoorCards.lean) ties it to the program's text. -/
def laid_obol_blake_beginning {H : Type} : DataW H := .agg [.lit (.int .u32 1779033703), .lit (.int .u32 3144134277), .lit (.int .u32 1013904242), .lit (.int .u32 2773480762), .lit (.int .u32 1359893119), .lit (.int .u32 2600822924), .lit (.int .u32 528734635), .lit (.int .u32 1541459225)]
def laid_obol_blake_rows {H : Type} : DataW H := .agg [.agg [.lit (.int .u8 0), .lit (.int .u8 1), .lit (.int .u8 2), .lit (.int .u8 3), .lit (.int .u8 4), .lit (.int .u8 5), .lit (.int .u8 6), .lit (.int .u8 7), .lit (.int .u8 8), .lit (.int .u8 9), .lit (.int .u8 10), .lit (.int .u8 11), .lit (.int .u8 12), .lit (.int .u8 13), .lit (.int .u8 14), .lit (.int .u8 15)], .agg [.lit (.int .u8 14), .lit (.int .u8 10), .lit (.int .u8 4), .lit (.int .u8 8), .lit (.int .u8 9), .lit (.int .u8 15), .lit (.int .u8 13), .lit (.int .u8 6), .lit (.int .u8 1), .lit (.int .u8 12), .lit (.int .u8 0), .lit (.int .u8 2), .lit (.int .u8 11), .lit (.int .u8 7), .lit (.int .u8 5), .lit (.int .u8 3)], .agg [.lit (.int .u8 11), .lit (.int .u8 8), .lit (.int .u8 12), .lit (.int .u8 0), .lit (.int .u8 5), .lit (.int .u8 2), .lit (.int .u8 15), .lit (.int .u8 13), .lit (.int .u8 10), .lit (.int .u8 14), .lit (.int .u8 3), .lit (.int .u8 6), .lit (.int .u8 7), .lit (.int .u8 1), .lit (.int .u8 9), .lit (.int .u8 4)], .agg [.lit (.int .u8 7), .lit (.int .u8 9), .lit (.int .u8 3), .lit (.int .u8 1), .lit (.int .u8 13), .lit (.int .u8 12), .lit (.int .u8 11), .lit (.int .u8 14), .lit (.int .u8 2), .lit (.int .u8 6), .lit (.int .u8 5), .lit (.int .u8 10), .lit (.int .u8 4), .lit (.int .u8 0), .lit (.int .u8 15), .lit (.int .u8 8)], .agg [.lit (.int .u8 9), .lit (.int .u8 0), .lit (.int .u8 5), .lit (.int .u8 7), .lit (.int .u8 2), .lit (.int .u8 4), .lit (.int .u8 10), .lit (.int .u8 15), .lit (.int .u8 14), .lit (.int .u8 1), .lit (.int .u8 11), .lit (.int .u8 12), .lit (.int .u8 6), .lit (.int .u8 8), .lit (.int .u8 3), .lit (.int .u8 13)], .agg [.lit (.int .u8 2), .lit (.int .u8 12), .lit (.int .u8 6), .lit (.int .u8 10), .lit (.int .u8 0), .lit (.int .u8 11), .lit (.int .u8 8), .lit (.int .u8 3), .lit (.int .u8 4), .lit (.int .u8 13), .lit (.int .u8 7), .lit (.int .u8 5), .lit (.int .u8 15), .lit (.int .u8 14), .lit (.int .u8 1), .lit (.int .u8 9)], .agg [.lit (.int .u8 12), .lit (.int .u8 5), .lit (.int .u8 1), .lit (.int .u8 15), .lit (.int .u8 14), .lit (.int .u8 13), .lit (.int .u8 4), .lit (.int .u8 10), .lit (.int .u8 0), .lit (.int .u8 7), .lit (.int .u8 6), .lit (.int .u8 3), .lit (.int .u8 9), .lit (.int .u8 2), .lit (.int .u8 8), .lit (.int .u8 11)], .agg [.lit (.int .u8 13), .lit (.int .u8 11), .lit (.int .u8 7), .lit (.int .u8 14), .lit (.int .u8 12), .lit (.int .u8 1), .lit (.int .u8 3), .lit (.int .u8 9), .lit (.int .u8 5), .lit (.int .u8 0), .lit (.int .u8 15), .lit (.int .u8 4), .lit (.int .u8 8), .lit (.int .u8 6), .lit (.int .u8 2), .lit (.int .u8 10)], .agg [.lit (.int .u8 6), .lit (.int .u8 15), .lit (.int .u8 14), .lit (.int .u8 9), .lit (.int .u8 11), .lit (.int .u8 3), .lit (.int .u8 0), .lit (.int .u8 8), .lit (.int .u8 12), .lit (.int .u8 2), .lit (.int .u8 13), .lit (.int .u8 7), .lit (.int .u8 1), .lit (.int .u8 4), .lit (.int .u8 10), .lit (.int .u8 5)], .agg [.lit (.int .u8 10), .lit (.int .u8 2), .lit (.int .u8 8), .lit (.int .u8 4), .lit (.int .u8 7), .lit (.int .u8 6), .lit (.int .u8 1), .lit (.int .u8 5), .lit (.int .u8 15), .lit (.int .u8 11), .lit (.int .u8 9), .lit (.int .u8 14), .lit (.int .u8 3), .lit (.int .u8 12), .lit (.int .u8 13), .lit (.int .u8 0)]]
def laid_obol_blake_places {H : Type} : DataW H := .agg [.agg [.lit (.int .u8 0), .lit (.int .u8 4), .lit (.int .u8 8), .lit (.int .u8 12)], .agg [.lit (.int .u8 1), .lit (.int .u8 5), .lit (.int .u8 9), .lit (.int .u8 13)], .agg [.lit (.int .u8 2), .lit (.int .u8 6), .lit (.int .u8 10), .lit (.int .u8 14)], .agg [.lit (.int .u8 3), .lit (.int .u8 7), .lit (.int .u8 11), .lit (.int .u8 15)], .agg [.lit (.int .u8 0), .lit (.int .u8 5), .lit (.int .u8 10), .lit (.int .u8 15)], .agg [.lit (.int .u8 1), .lit (.int .u8 6), .lit (.int .u8 11), .lit (.int .u8 12)], .agg [.lit (.int .u8 2), .lit (.int .u8 7), .lit (.int .u8 8), .lit (.int .u8 13)], .agg [.lit (.int .u8 3), .lit (.int .u8 4), .lit (.int .u8 9), .lit (.int .u8 14)]]

/-- 'obollaw09.SchnorrPoints': WHATEVER THE INPUT: true; the input reads as it did. -/
def schnorrPointsSpec : ChangeSpec := { name := "schnorrPoints", fn := fun _ => fun
  | [d] => { results := [.lit (.bool true)], args := [d] }
  | _ => none }
def schnorrPointsRow : OpenClaim := { program := "ytdhbkhmknnlmnaadoor", sum := "e8914bb49350e6b0b6897cb7a79bd3b3049aaa5fd9b0368a762780112599622e", func := "obol/obollaw09.SchnorrPoints", spec := "schnorrPoints", named := ["math/bits.divideError", "math/bits.overflowError", "obol/blake.beginning", "obol/blake.places", "obol/blake.rows"], apart := false, laid := [("obol/blake.beginning", laid_obol_blake_beginning), ("obol/blake.rows", laid_obol_blake_rows), ("obol/blake.places", laid_obol_blake_places)] }
def SchnorrPointsSaid : Prop := schnorrPointsRow.holds Tryd.pinned (OpenSpec.ofChange schnorrPointsSpec)

/-- ITS FALSE NEIGHBOUR: 'it returns false'. Refute it at one input. -/
def schnorrPointsWrong : ChangeSpec := { name := "schnorrPoints", fn := fun _ => fun
  | [d] => { results := [.lit (.bool false)], args := [d] }
  | _ => none }
def SchnorrPointsWrongFalsely : Prop := schnorrPointsRow.holds Tryd.pinned (OpenSpec.ofChange schnorrPointsWrong)

/-- 'obollaw09.SchnorrSigns': WHATEVER THE INPUT: true; the input reads as it did. -/
def schnorrSignsSpec : ChangeSpec := { name := "schnorrSigns", fn := fun _ => fun
  | [d1, d2, d3] => { results := [.lit (.bool true)], args := [d1, d2, d3] }
  | _ => none }
def schnorrSignsRow : OpenClaim := { program := "ytdhbkhmknnlmnaadoor", sum := "e8914bb49350e6b0b6897cb7a79bd3b3049aaa5fd9b0368a762780112599622e", func := "obol/obollaw09.SchnorrSigns", spec := "schnorrSigns", named := ["math/bits.divideError", "math/bits.overflowError", "obol/blake.beginning", "obol/blake.places", "obol/blake.rows"], apart := false, laid := [("obol/blake.beginning", laid_obol_blake_beginning), ("obol/blake.rows", laid_obol_blake_rows), ("obol/blake.places", laid_obol_blake_places)] }
def SchnorrSignsSaid : Prop := schnorrSignsRow.holds Tryd.pinned (OpenSpec.ofChange schnorrSignsSpec)

/-- ITS FALSE NEIGHBOUR: 'it returns false'. Refute it at one input. -/
def schnorrSignsWrong : ChangeSpec := { name := "schnorrSigns", fn := fun _ => fun
  | [d1, d2, d3] => { results := [.lit (.bool false)], args := [d1, d2, d3] }
  | _ => none }
def SchnorrSignsWrongFalsely : Prop := schnorrSignsRow.holds Tryd.pinned (OpenSpec.ofChange schnorrSignsWrong)

/-- 'obollaw09.SchnorrVerifies': WHATEVER THE INPUT: true; the input reads as it did. -/
def schnorrVerifiesSpec : ChangeSpec := { name := "schnorrVerifies", fn := fun _ => fun
  | [d1, d2, d3] => { results := [.lit (.bool true)], args := [d1, d2, d3] }
  | _ => none }
def schnorrVerifiesRow : OpenClaim := { program := "ytdhbkhmknnlmnaadoor", sum := "e8914bb49350e6b0b6897cb7a79bd3b3049aaa5fd9b0368a762780112599622e", func := "obol/obollaw09.SchnorrVerifies", spec := "schnorrVerifies", named := ["math/bits.divideError", "math/bits.overflowError", "obol/blake.beginning", "obol/blake.places", "obol/blake.rows"], apart := false, laid := [("obol/blake.beginning", laid_obol_blake_beginning), ("obol/blake.rows", laid_obol_blake_rows), ("obol/blake.places", laid_obol_blake_places)] }
def SchnorrVerifiesSaid : Prop := schnorrVerifiesRow.holds Tryd.pinned (OpenSpec.ofChange schnorrVerifiesSpec)

/-- ITS FALSE NEIGHBOUR: 'it returns false'. Refute it at one input. -/
def schnorrVerifiesWrong : ChangeSpec := { name := "schnorrVerifies", fn := fun _ => fun
  | [d1, d2, d3] => { results := [.lit (.bool false)], args := [d1, d2, d3] }
  | _ => none }
def SchnorrVerifiesWrongFalsely : Prop := schnorrVerifiesRow.holds Tryd.pinned (OpenSpec.ofChange schnorrVerifiesWrong)

/-- 'obollaw09.SchnorrTurns': WHATEVER THE INPUT: true; the input reads as it did. -/
def schnorrTurnsSpec : ChangeSpec := { name := "schnorrTurns", fn := fun _ => fun
  | [d1, d2, d3] => { results := [.lit (.bool true)], args := [d1, d2, d3] }
  | _ => none }
def schnorrTurnsRow : OpenClaim := { program := "ytdhbkhmknnlmnaadoor", sum := "e8914bb49350e6b0b6897cb7a79bd3b3049aaa5fd9b0368a762780112599622e", func := "obol/obollaw09.SchnorrTurns", spec := "schnorrTurns", named := ["math/bits.divideError", "math/bits.overflowError", "obol/blake.beginning", "obol/blake.places", "obol/blake.rows"], apart := false, laid := [("obol/blake.beginning", laid_obol_blake_beginning), ("obol/blake.rows", laid_obol_blake_rows), ("obol/blake.places", laid_obol_blake_places)] }
def SchnorrTurnsSaid : Prop := schnorrTurnsRow.holds Tryd.pinned (OpenSpec.ofChange schnorrTurnsSpec)

/-- ITS FALSE NEIGHBOUR: 'it returns false'. Refute it at one input. -/
def schnorrTurnsWrong : ChangeSpec := { name := "schnorrTurns", fn := fun _ => fun
  | [d1, d2, d3] => { results := [.lit (.bool false)], args := [d1, d2, d3] }
  | _ => none }
def SchnorrTurnsWrongFalsely : Prop := schnorrTurnsRow.holds Tryd.pinned (OpenSpec.ofChange schnorrTurnsWrong)

/-- 'obollaw09.SchnorrHolds': WHATEVER THE INPUT: true; the input reads as it did. -/
def schnorrHoldsSpec : ChangeSpec := { name := "schnorrHolds", fn := fun _ => fun
  | [d1, d2, d3, d4, d5] => { results := [.lit (.bool true)], args := [d1, d2, d3, d4, d5] }
  | _ => none }
def schnorrHoldsRow : OpenClaim := { program := "ytdhbkhmknnlmnaadoor", sum := "e8914bb49350e6b0b6897cb7a79bd3b3049aaa5fd9b0368a762780112599622e", func := "obol/obollaw09.SchnorrHolds", spec := "schnorrHolds", named := ["math/bits.divideError", "math/bits.overflowError", "obol/blake.beginning", "obol/blake.places", "obol/blake.rows"], apart := false, laid := [("obol/blake.beginning", laid_obol_blake_beginning), ("obol/blake.rows", laid_obol_blake_rows), ("obol/blake.places", laid_obol_blake_places)] }
def SchnorrHoldsSaid : Prop := schnorrHoldsRow.holds Tryd.pinned (OpenSpec.ofChange schnorrHoldsSpec)

/-- ITS FALSE NEIGHBOUR: 'it returns false'. Refute it at one input. -/
def schnorrHoldsWrong : ChangeSpec := { name := "schnorrHolds", fn := fun _ => fun
  | [d1, d2, d3, d4, d5] => { results := [.lit (.bool false)], args := [d1, d2, d3, d4, d5] }
  | _ => none }
def SchnorrHoldsWrongFalsely : Prop := schnorrHoldsRow.holds Tryd.pinned (OpenSpec.ofChange schnorrHoldsWrong)

/-- 'obollaw09.SchnorrStays': WHATEVER THE INPUT: true; the input reads as it did. -/
def schnorrStaysSpec : ChangeSpec := { name := "schnorrStays", fn := fun _ => fun
  | [d1, d2, d3] => { results := [.lit (.bool true)], args := [d1, d2, d3] }
  | _ => none }
def schnorrStaysRow : OpenClaim := { program := "ytdhbkhmknnlmnaadoor", sum := "e8914bb49350e6b0b6897cb7a79bd3b3049aaa5fd9b0368a762780112599622e", func := "obol/obollaw09.SchnorrStays", spec := "schnorrStays", named := ["math/bits.divideError", "math/bits.overflowError", "obol/blake.beginning", "obol/blake.places", "obol/blake.rows"], apart := false, laid := [("obol/blake.beginning", laid_obol_blake_beginning), ("obol/blake.rows", laid_obol_blake_rows), ("obol/blake.places", laid_obol_blake_places)] }
def SchnorrStaysSaid : Prop := schnorrStaysRow.holds Tryd.pinned (OpenSpec.ofChange schnorrStaysSpec)

/-- ITS FALSE NEIGHBOUR: 'it returns false'. Refute it at one input. -/
def schnorrStaysWrong : ChangeSpec := { name := "schnorrStays", fn := fun _ => fun
  | [d1, d2, d3] => { results := [.lit (.bool false)], args := [d1, d2, d3] }
  | _ => none }
def SchnorrStaysWrongFalsely : Prop := schnorrStaysRow.holds Tryd.pinned (OpenSpec.ofChange schnorrStaysWrong)

/- THE SECOND FORM. 'bulk': how many values and letters a reading holds, each counted each time it is reached (what is shared counts as often as it is met; a slice's spare places count too). A statement '..UptoSaid' is the law's where the arguments, and the package variables that the reading takes, are together of bulk at most 1048576: NARROWER than '..Said'. Prove '..Said' where nothing that the law and all that it calls make is longer than what came in: it says more and counts as full. Else prove '..UptoSaid'. A law counts once. -/
mutual
def uptoBulk {H : Type} : DataW H → Nat
  | .lit (.string bytes) => bytes.length + 1
  | .lit _ => 1
  | .nil => 1
  | .ptr d => uptoBulk d + 1
  | .slice elems spare => uptoBulkAll elems + uptoBulkAll spare + 1
  | .agg parts => uptoBulkAll parts + 1
  | .iface _ d => uptoBulk d + 1
  | .map entries => uptoBulkEntries entries + 1
  | .held _ => 1
def uptoBulkAll {H : Type} : List (DataW H) → Nat
  | [] => 0
  | d :: r => uptoBulk d + uptoBulkAll r
def uptoBulkEntries {H : Type} : List (Lit × DataW H) → Nat
  | [] => 0
  | x :: r => uptoBulkEntry x + uptoBulkEntries r
def uptoBulkEntry {H : Type} : Lit × DataW H → Nat
  | (.string bytes, d) => bytes.length + uptoBulk d + 1
  | (_, d) => uptoBulk d + 1
 end
def uptoSmall : (H : Type) → List (DataW H) → Bool := fun _ ds => decide (uptoBulkAll ds ≤ 1048576)
def OpenSpec.upto (s : _root_.Go.ChangeSpec) : _root_.Go.OpenSpec := { _root_.Go.OpenSpec.ofChange s with cond := some uptoSmall }

/-- 'obollaw09.SchnorrPoints', WHERE WHAT IT READS IS OF BULK AT MOST 1048576: true; the input reads as it did. -/
def schnorrPointsUptoRow : OpenClaim := { program := "ytdhbkhmknnlmnaadoor", sum := "e8914bb49350e6b0b6897cb7a79bd3b3049aaa5fd9b0368a762780112599622e", func := "obol/obollaw09.SchnorrPoints", spec := "schnorrPoints", named := ["math/bits.divideError", "math/bits.overflowError", "obol/blake.beginning", "obol/blake.places", "obol/blake.rows"], apart := false, laid := [("obol/blake.beginning", laid_obol_blake_beginning), ("obol/blake.rows", laid_obol_blake_rows), ("obol/blake.places", laid_obol_blake_places)], narrowed := true }
def SchnorrPointsUptoSaid : Prop := schnorrPointsUptoRow.holds Tryd.pinned (OpenSpec.upto schnorrPointsSpec)

/-- 'obollaw09.SchnorrSigns', WHERE WHAT IT READS IS OF BULK AT MOST 1048576: true; the input reads as it did. -/
def schnorrSignsUptoRow : OpenClaim := { program := "ytdhbkhmknnlmnaadoor", sum := "e8914bb49350e6b0b6897cb7a79bd3b3049aaa5fd9b0368a762780112599622e", func := "obol/obollaw09.SchnorrSigns", spec := "schnorrSigns", named := ["math/bits.divideError", "math/bits.overflowError", "obol/blake.beginning", "obol/blake.places", "obol/blake.rows"], apart := false, laid := [("obol/blake.beginning", laid_obol_blake_beginning), ("obol/blake.rows", laid_obol_blake_rows), ("obol/blake.places", laid_obol_blake_places)], narrowed := true }
def SchnorrSignsUptoSaid : Prop := schnorrSignsUptoRow.holds Tryd.pinned (OpenSpec.upto schnorrSignsSpec)

/-- 'obollaw09.SchnorrVerifies', WHERE WHAT IT READS IS OF BULK AT MOST 1048576: true; the input reads as it did. -/
def schnorrVerifiesUptoRow : OpenClaim := { program := "ytdhbkhmknnlmnaadoor", sum := "e8914bb49350e6b0b6897cb7a79bd3b3049aaa5fd9b0368a762780112599622e", func := "obol/obollaw09.SchnorrVerifies", spec := "schnorrVerifies", named := ["math/bits.divideError", "math/bits.overflowError", "obol/blake.beginning", "obol/blake.places", "obol/blake.rows"], apart := false, laid := [("obol/blake.beginning", laid_obol_blake_beginning), ("obol/blake.rows", laid_obol_blake_rows), ("obol/blake.places", laid_obol_blake_places)], narrowed := true }
def SchnorrVerifiesUptoSaid : Prop := schnorrVerifiesUptoRow.holds Tryd.pinned (OpenSpec.upto schnorrVerifiesSpec)

/-- 'obollaw09.SchnorrTurns', WHERE WHAT IT READS IS OF BULK AT MOST 1048576: true; the input reads as it did. -/
def schnorrTurnsUptoRow : OpenClaim := { program := "ytdhbkhmknnlmnaadoor", sum := "e8914bb49350e6b0b6897cb7a79bd3b3049aaa5fd9b0368a762780112599622e", func := "obol/obollaw09.SchnorrTurns", spec := "schnorrTurns", named := ["math/bits.divideError", "math/bits.overflowError", "obol/blake.beginning", "obol/blake.places", "obol/blake.rows"], apart := false, laid := [("obol/blake.beginning", laid_obol_blake_beginning), ("obol/blake.rows", laid_obol_blake_rows), ("obol/blake.places", laid_obol_blake_places)], narrowed := true }
def SchnorrTurnsUptoSaid : Prop := schnorrTurnsUptoRow.holds Tryd.pinned (OpenSpec.upto schnorrTurnsSpec)

/-- 'obollaw09.SchnorrHolds', WHERE WHAT IT READS IS OF BULK AT MOST 1048576: true; the input reads as it did. -/
def schnorrHoldsUptoRow : OpenClaim := { program := "ytdhbkhmknnlmnaadoor", sum := "e8914bb49350e6b0b6897cb7a79bd3b3049aaa5fd9b0368a762780112599622e", func := "obol/obollaw09.SchnorrHolds", spec := "schnorrHolds", named := ["math/bits.divideError", "math/bits.overflowError", "obol/blake.beginning", "obol/blake.places", "obol/blake.rows"], apart := false, laid := [("obol/blake.beginning", laid_obol_blake_beginning), ("obol/blake.rows", laid_obol_blake_rows), ("obol/blake.places", laid_obol_blake_places)], narrowed := true }
def SchnorrHoldsUptoSaid : Prop := schnorrHoldsUptoRow.holds Tryd.pinned (OpenSpec.upto schnorrHoldsSpec)

/-- 'obollaw09.SchnorrStays', WHERE WHAT IT READS IS OF BULK AT MOST 1048576: true; the input reads as it did. -/
def schnorrStaysUptoRow : OpenClaim := { program := "ytdhbkhmknnlmnaadoor", sum := "e8914bb49350e6b0b6897cb7a79bd3b3049aaa5fd9b0368a762780112599622e", func := "obol/obollaw09.SchnorrStays", spec := "schnorrStays", named := ["math/bits.divideError", "math/bits.overflowError", "obol/blake.beginning", "obol/blake.places", "obol/blake.rows"], apart := false, laid := [("obol/blake.beginning", laid_obol_blake_beginning), ("obol/blake.rows", laid_obol_blake_rows), ("obol/blake.places", laid_obol_blake_places)], narrowed := true }
def SchnorrStaysUptoSaid : Prop := schnorrStaysUptoRow.holds Tryd.pinned (OpenSpec.upto schnorrStaysSpec)

end Rows
end Go.Proofs.YtdhbkhmknnlmnaaDoor
