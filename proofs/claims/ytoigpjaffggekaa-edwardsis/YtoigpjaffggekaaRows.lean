/-
  No cell of these rows narrows 'for every input' (looked for: loops, veiled, ifaces, maps, wideKeys, modest, calm, conditions, laid).
  DERIVED. THE GIVEN ROWS OF THIS SEAT. 3 by the template 'for every input the law returns true; each argument reads behind the call as it read before'; 0 by the template 'total and deterministic' (their statements: YtoigpjaffggekaaTotals.lean).
  GIVEN WITH THE SEED: the statements are not yours to turn. If you find one false, say at which input.
  Laid BY PROGRAM, IN A SANDBOX (cutbox-rows.mjs): the forced cells as the released guide's own fill.sh prints them over the translation 4f94558b2188d948… (all of the seat's roots in one cut). By AI agents, Wed Nov 11 2026. No macro, syntax, notation, axiom, sorry.
-/
import Derived.Test.YtoigpjaffggekaaChecked
import GoSem.Claim
import GoSem.ClaimJoined
import GoSem.ClaimMapViews
import Derived.JoinedTies
import Derived.KernelRfl
namespace Go.Proofs.Ytoigpjaffggekaa
/- THE CELL 'sum', in the pinned program and in every row, IS THE sha256 OF THE DUMP (.gsa) THAT YtoigpjaffggekaaProg.lean LOADS. Nothing in Lean hashes anything: it is a label: what it is worth is what the hold of that sum in a sandbox is worth. -/
noncomputable def Try.pinned : Pinned := { name := "ytoigpjaffggekaa", sum := "4f94558b2188d94888a4e038c84fbcfab5684c52123002a9d055499b252954a9", checked := Try.checked }
namespace Rows
def none {H : Type} : Left H := { results := [], args := [] }

/-- 'obollaw07.EdwardsIs': WHATEVER THE INPUT: true; the input reads as it did. -/
def edwardsIsSpec : ChangeSpec := { name := "edwardsIs", fn := fun _ => fun
  | [d] => { results := [.lit (.bool true)], args := [d] }
  | _ => none }
def edwardsIsRow : OpenClaim := { program := "ytoigpjaffggekaa", sum := "4f94558b2188d94888a4e038c84fbcfab5684c52123002a9d055499b252954a9", func := "obol/obollaw07.EdwardsIs", spec := "edwardsIs", named := ["math/bits.divideError", "math/bits.overflowError"], apart := false }
def EdwardsIsSaid : Prop := edwardsIsRow.holds Try.pinned (OpenSpec.ofChange edwardsIsSpec)

/-- ITS FALSE NEIGHBOUR: 'it returns false'. Refute it at one input. -/
def edwardsIsWrong : ChangeSpec := { name := "edwardsIs", fn := fun _ => fun
  | [d] => { results := [.lit (.bool false)], args := [d] }
  | _ => none }
def EdwardsIsWrongFalsely : Prop := edwardsIsRow.holds Try.pinned (OpenSpec.ofChange edwardsIsWrong)

/-- 'obollaw07.EdwardsAdds': WHATEVER THE INPUT: true; the input reads as it did. -/
def edwardsAddsSpec : ChangeSpec := { name := "edwardsAdds", fn := fun _ => fun
  | [d1, d2] => { results := [.lit (.bool true)], args := [d1, d2] }
  | _ => none }
def edwardsAddsRow : OpenClaim := { program := "ytoigpjaffggekaa", sum := "4f94558b2188d94888a4e038c84fbcfab5684c52123002a9d055499b252954a9", func := "obol/obollaw07.EdwardsAdds", spec := "edwardsAdds", named := ["math/bits.divideError", "math/bits.overflowError"], apart := false }
def EdwardsAddsSaid : Prop := edwardsAddsRow.holds Try.pinned (OpenSpec.ofChange edwardsAddsSpec)

/-- ITS FALSE NEIGHBOUR: 'it returns false'. Refute it at one input. -/
def edwardsAddsWrong : ChangeSpec := { name := "edwardsAdds", fn := fun _ => fun
  | [d1, d2] => { results := [.lit (.bool false)], args := [d1, d2] }
  | _ => none }
def EdwardsAddsWrongFalsely : Prop := edwardsAddsRow.holds Try.pinned (OpenSpec.ofChange edwardsAddsWrong)

/-- 'obollaw07.EdwardsMuls': WHATEVER THE INPUT: true; the input reads as it did. -/
def edwardsMulsSpec : ChangeSpec := { name := "edwardsMuls", fn := fun _ => fun
  | [d1, d2] => { results := [.lit (.bool true)], args := [d1, d2] }
  | _ => none }
def edwardsMulsRow : OpenClaim := { program := "ytoigpjaffggekaa", sum := "4f94558b2188d94888a4e038c84fbcfab5684c52123002a9d055499b252954a9", func := "obol/obollaw07.EdwardsMuls", spec := "edwardsMuls", named := ["math/bits.divideError", "math/bits.overflowError"], apart := false }
def EdwardsMulsSaid : Prop := edwardsMulsRow.holds Try.pinned (OpenSpec.ofChange edwardsMulsSpec)

/-- ITS FALSE NEIGHBOUR: 'it returns false'. Refute it at one input. -/
def edwardsMulsWrong : ChangeSpec := { name := "edwardsMuls", fn := fun _ => fun
  | [d1, d2] => { results := [.lit (.bool false)], args := [d1, d2] }
  | _ => none }
def EdwardsMulsWrongFalsely : Prop := edwardsMulsRow.holds Try.pinned (OpenSpec.ofChange edwardsMulsWrong)

/- THE SECOND FORM. 'bulk': how many values and letters a reading holds, each counted each time it is reached (what is shared counts as often as it is met; a slice's spare places count too). A statement '..UptoSaid' is the law's where the arguments, and the package variables that the reading takes, are together of bulk at most 1048576: NARROWER than '..Said'. Prove '..Said' where nothing that the law and all that it calls make is longer than what came in: it says more and counts as full. Else prove '..UptoSaid'. A law counts once. -/
mutual
def uptoBulk {H : Type} : DataW H → Nat
  | .lit (.string bytes) => bytes.length + 1
  | .lit _ => 1
  | .nil => 1
  | .ptr d => uptoBulk d + 1
  | .slice elems spare => uptoBulkAll elems + uptoBulkAll spare + 1
  | .agg parts => uptoBulkAll parts + 1
  | .iface _ d => uptoBulk d + 1
  | .map entries => uptoBulkEntries entries + 1
  | .held _ => 1
def uptoBulkAll {H : Type} : List (DataW H) → Nat
  | [] => 0
  | d :: r => uptoBulk d + uptoBulkAll r
def uptoBulkEntries {H : Type} : List (Lit × DataW H) → Nat
  | [] => 0
  | x :: r => uptoBulkEntry x + uptoBulkEntries r
def uptoBulkEntry {H : Type} : Lit × DataW H → Nat
  | (.string bytes, d) => bytes.length + uptoBulk d + 1
  | (_, d) => uptoBulk d + 1
 end
def uptoSmall : (H : Type) → List (DataW H) → Bool := fun _ ds => decide (uptoBulkAll ds ≤ 1048576)
def OpenSpec.upto (s : _root_.Go.ChangeSpec) : _root_.Go.OpenSpec := { _root_.Go.OpenSpec.ofChange s with cond := some uptoSmall }

/-- 'obollaw07.EdwardsIs', WHERE WHAT IT READS IS OF BULK AT MOST 1048576: true; the input reads as it did. -/
def edwardsIsUptoRow : OpenClaim := { program := "ytoigpjaffggekaa", sum := "4f94558b2188d94888a4e038c84fbcfab5684c52123002a9d055499b252954a9", func := "obol/obollaw07.EdwardsIs", spec := "edwardsIs", named := ["math/bits.divideError", "math/bits.overflowError"], apart := false, narrowed := true }
def EdwardsIsUptoSaid : Prop := edwardsIsUptoRow.holds Try.pinned (OpenSpec.upto edwardsIsSpec)

/-- 'obollaw07.EdwardsAdds', WHERE WHAT IT READS IS OF BULK AT MOST 1048576: true; the input reads as it did. -/
def edwardsAddsUptoRow : OpenClaim := { program := "ytoigpjaffggekaa", sum := "4f94558b2188d94888a4e038c84fbcfab5684c52123002a9d055499b252954a9", func := "obol/obollaw07.EdwardsAdds", spec := "edwardsAdds", named := ["math/bits.divideError", "math/bits.overflowError"], apart := false, narrowed := true }
def EdwardsAddsUptoSaid : Prop := edwardsAddsUptoRow.holds Try.pinned (OpenSpec.upto edwardsAddsSpec)

/-- 'obollaw07.EdwardsMuls', WHERE WHAT IT READS IS OF BULK AT MOST 1048576: true; the input reads as it did. -/
def edwardsMulsUptoRow : OpenClaim := { program := "ytoigpjaffggekaa", sum := "4f94558b2188d94888a4e038c84fbcfab5684c52123002a9d055499b252954a9", func := "obol/obollaw07.EdwardsMuls", spec := "edwardsMuls", named := ["math/bits.divideError", "math/bits.overflowError"], apart := false, narrowed := true }
def EdwardsMulsUptoSaid : Prop := edwardsMulsUptoRow.holds Try.pinned (OpenSpec.upto edwardsMulsSpec)

end Rows
end Go.Proofs.Ytoigpjaffggekaa
