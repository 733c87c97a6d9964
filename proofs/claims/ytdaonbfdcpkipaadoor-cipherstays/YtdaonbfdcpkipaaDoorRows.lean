/-
  NARROWER THAN 'FOR EVERY INPUT', by the rows' own cells (each row's printed sentence says how): CipherBlocks: laid · CipherMarks: laid · CipherSeals: laid · CipherOpens: laid · CipherBack: laid · CipherStays: laid.
  DERIVED. THE GIVEN ROWS OF THIS SEAT. 6 by the template 'for every input the law returns true; each argument reads behind the call as it read before'; 0 by the template 'total and deterministic' (their statements: YtdaonbfdcpkipaaDoorTotals.lean).
  GIVEN WITH THE SEED: the statements are not yours to turn. If you find one false, say at which input.
  Laid BY PROGRAM, IN A SANDBOX (cutbox-rows.mjs): the forced cells as the released guide's own fill.sh prints them over the translation 35acbcdd5a392f2d… (all of the seat's roots in one cut). By AI agents, Wed Nov 11 2026. No macro, syntax, notation, axiom, sorry.
-/
import Derived.Test.YtdaonbfdcpkipaaDoorChecked
import GoSem.Claim
import GoSem.ClaimJoined
import GoSem.ClaimMapViews
import Derived.JoinedTies
import Derived.KernelRfl
namespace Go.Proofs.YtdaonbfdcpkipaaDoor
/- THE CELL 'sum', in the pinned program and in every row, IS THE sha256 OF THE DUMP (.gsa) THAT YtdaonbfdcpkipaaDoorProg.lean LOADS. Nothing in Lean hashes anything: it is a label: what it is worth is what the hold of that sum in a sandbox is worth. -/
noncomputable def Tryd.pinned : Pinned := { name := "ytdaonbfdcpkipaadoor", sum := "35acbcdd5a392f2dfd42bef52a7fb1775ec64aec5d03e73a4175c5621cf001ec", checked := Tryd.checked }
namespace Rows
def none {H : Type} : Left H := { results := [], args := [] }

/- WHAT THE LISTED PACKAGE-LEVEL VARIABLES READ AS WHEN THE CALL BEGINS. Each datum BY PROGRAM (the guide's laid-datum.mjs) off the statement by which the dump's own 'gosem.cut.vars' lays the variable. In a bare row this is a premise. The card (YtdaonbfdcpkipaaDoorCards.lean) ties it to the program's text. -/
def laid_obol_cipher_opening {H : Type} : DataW H := .agg [.lit (.int .u32 1634760805), .lit (.int .u32 857760878), .lit (.int .u32 2036477234), .lit (.int .u32 1797285236)]
def laid_obol_cipher_places {H : Type} : DataW H := .agg [.agg [.lit (.int .u8 0), .lit (.int .u8 4), .lit (.int .u8 8), .lit (.int .u8 12)], .agg [.lit (.int .u8 1), .lit (.int .u8 5), .lit (.int .u8 9), .lit (.int .u8 13)], .agg [.lit (.int .u8 2), .lit (.int .u8 6), .lit (.int .u8 10), .lit (.int .u8 14)], .agg [.lit (.int .u8 3), .lit (.int .u8 7), .lit (.int .u8 11), .lit (.int .u8 15)], .agg [.lit (.int .u8 0), .lit (.int .u8 5), .lit (.int .u8 10), .lit (.int .u8 15)], .agg [.lit (.int .u8 1), .lit (.int .u8 6), .lit (.int .u8 11), .lit (.int .u8 12)], .agg [.lit (.int .u8 2), .lit (.int .u8 7), .lit (.int .u8 8), .lit (.int .u8 13)], .agg [.lit (.int .u8 3), .lit (.int .u8 4), .lit (.int .u8 9), .lit (.int .u8 14)]]

/-- 'obollaw06.CipherBlocks': WHATEVER THE INPUT: true; the input reads as it did. -/
def cipherBlocksSpec : ChangeSpec := { name := "cipherBlocks", fn := fun _ => fun
  | [d1, d2, d3] => { results := [.lit (.bool true)], args := [d1, d2, d3] }
  | _ => none }
def cipherBlocksRow : OpenClaim := { program := "ytdaonbfdcpkipaadoor", sum := "35acbcdd5a392f2dfd42bef52a7fb1775ec64aec5d03e73a4175c5621cf001ec", func := "obol/obollaw06.CipherBlocks", spec := "cipherBlocks", inPlace := ["math/bits.Add64"], unfollowed := true, recurses := true, named := ["obol/cipher.opening", "obol/cipher.places"], apart := false, laid := [("obol/cipher.opening", laid_obol_cipher_opening), ("obol/cipher.places", laid_obol_cipher_places)] }
def CipherBlocksSaid : Prop := cipherBlocksRow.holds Tryd.pinned (OpenSpec.ofChange cipherBlocksSpec)

/-- ITS FALSE NEIGHBOUR: 'it returns false'. Refute it at one input. -/
def cipherBlocksWrong : ChangeSpec := { name := "cipherBlocks", fn := fun _ => fun
  | [d1, d2, d3] => { results := [.lit (.bool false)], args := [d1, d2, d3] }
  | _ => none }
def CipherBlocksWrongFalsely : Prop := cipherBlocksRow.holds Tryd.pinned (OpenSpec.ofChange cipherBlocksWrong)

/-- 'obollaw06.CipherMarks': WHATEVER THE INPUT: true; the input reads as it did. -/
def cipherMarksSpec : ChangeSpec := { name := "cipherMarks", fn := fun _ => fun
  | [d1, d2] => { results := [.lit (.bool true)], args := [d1, d2] }
  | _ => none }
def cipherMarksRow : OpenClaim := { program := "ytdaonbfdcpkipaadoor", sum := "35acbcdd5a392f2dfd42bef52a7fb1775ec64aec5d03e73a4175c5621cf001ec", func := "obol/obollaw06.CipherMarks", spec := "cipherMarks", inPlace := ["math/bits.Add64"], unfollowed := true, recurses := true, named := ["obol/cipher.opening", "obol/cipher.places"], apart := false, laid := [("obol/cipher.opening", laid_obol_cipher_opening), ("obol/cipher.places", laid_obol_cipher_places)] }
def CipherMarksSaid : Prop := cipherMarksRow.holds Tryd.pinned (OpenSpec.ofChange cipherMarksSpec)

/-- ITS FALSE NEIGHBOUR: 'it returns false'. Refute it at one input. -/
def cipherMarksWrong : ChangeSpec := { name := "cipherMarks", fn := fun _ => fun
  | [d1, d2] => { results := [.lit (.bool false)], args := [d1, d2] }
  | _ => none }
def CipherMarksWrongFalsely : Prop := cipherMarksRow.holds Tryd.pinned (OpenSpec.ofChange cipherMarksWrong)

/-- 'obollaw06.CipherSeals': WHATEVER THE INPUT: true; the input reads as it did. -/
def cipherSealsSpec : ChangeSpec := { name := "cipherSeals", fn := fun _ => fun
  | [d1, d2, d3, d4] => { results := [.lit (.bool true)], args := [d1, d2, d3, d4] }
  | _ => none }
def cipherSealsRow : OpenClaim := { program := "ytdaonbfdcpkipaadoor", sum := "35acbcdd5a392f2dfd42bef52a7fb1775ec64aec5d03e73a4175c5621cf001ec", func := "obol/obollaw06.CipherSeals", spec := "cipherSeals", inPlace := ["math/bits.Add64"], unfollowed := true, recurses := true, named := ["obol/cipher.opening", "obol/cipher.places"], apart := false, laid := [("obol/cipher.opening", laid_obol_cipher_opening), ("obol/cipher.places", laid_obol_cipher_places)] }
def CipherSealsSaid : Prop := cipherSealsRow.holds Tryd.pinned (OpenSpec.ofChange cipherSealsSpec)

/-- ITS FALSE NEIGHBOUR: 'it returns false'. Refute it at one input. -/
def cipherSealsWrong : ChangeSpec := { name := "cipherSeals", fn := fun _ => fun
  | [d1, d2, d3, d4] => { results := [.lit (.bool false)], args := [d1, d2, d3, d4] }
  | _ => none }
def CipherSealsWrongFalsely : Prop := cipherSealsRow.holds Tryd.pinned (OpenSpec.ofChange cipherSealsWrong)

/-- 'obollaw06.CipherOpens': WHATEVER THE INPUT: true; the input reads as it did. -/
def cipherOpensSpec : ChangeSpec := { name := "cipherOpens", fn := fun _ => fun
  | [d1, d2, d3, d4] => { results := [.lit (.bool true)], args := [d1, d2, d3, d4] }
  | _ => none }
def cipherOpensRow : OpenClaim := { program := "ytdaonbfdcpkipaadoor", sum := "35acbcdd5a392f2dfd42bef52a7fb1775ec64aec5d03e73a4175c5621cf001ec", func := "obol/obollaw06.CipherOpens", spec := "cipherOpens", inPlace := ["math/bits.Add64"], unfollowed := true, recurses := true, named := ["obol/cipher.opening", "obol/cipher.places"], apart := false, laid := [("obol/cipher.opening", laid_obol_cipher_opening), ("obol/cipher.places", laid_obol_cipher_places)] }
def CipherOpensSaid : Prop := cipherOpensRow.holds Tryd.pinned (OpenSpec.ofChange cipherOpensSpec)

/-- ITS FALSE NEIGHBOUR: 'it returns false'. Refute it at one input. -/
def cipherOpensWrong : ChangeSpec := { name := "cipherOpens", fn := fun _ => fun
  | [d1, d2, d3, d4] => { results := [.lit (.bool false)], args := [d1, d2, d3, d4] }
  | _ => none }
def CipherOpensWrongFalsely : Prop := cipherOpensRow.holds Tryd.pinned (OpenSpec.ofChange cipherOpensWrong)

/-- 'obollaw06.CipherBack': WHATEVER THE INPUT: true; the input reads as it did. -/
def cipherBackSpec : ChangeSpec := { name := "cipherBack", fn := fun _ => fun
  | [d1, d2, d3, d4, d5, d6] => { results := [.lit (.bool true)], args := [d1, d2, d3, d4, d5, d6] }
  | _ => none }
def cipherBackRow : OpenClaim := { program := "ytdaonbfdcpkipaadoor", sum := "35acbcdd5a392f2dfd42bef52a7fb1775ec64aec5d03e73a4175c5621cf001ec", func := "obol/obollaw06.CipherBack", spec := "cipherBack", inPlace := ["math/bits.Add64"], unfollowed := true, recurses := true, named := ["obol/cipher.opening", "obol/cipher.places"], apart := false, laid := [("obol/cipher.opening", laid_obol_cipher_opening), ("obol/cipher.places", laid_obol_cipher_places)] }
def CipherBackSaid : Prop := cipherBackRow.holds Tryd.pinned (OpenSpec.ofChange cipherBackSpec)

/-- ITS FALSE NEIGHBOUR: 'it returns false'. Refute it at one input. -/
def cipherBackWrong : ChangeSpec := { name := "cipherBack", fn := fun _ => fun
  | [d1, d2, d3, d4, d5, d6] => { results := [.lit (.bool false)], args := [d1, d2, d3, d4, d5, d6] }
  | _ => none }
def CipherBackWrongFalsely : Prop := cipherBackRow.holds Tryd.pinned (OpenSpec.ofChange cipherBackWrong)

/-- 'obollaw06.CipherStays': WHATEVER THE INPUT: true; the input reads as it did. -/
def cipherStaysSpec : ChangeSpec := { name := "cipherStays", fn := fun _ => fun
  | [d1, d2, d3, d4] => { results := [.lit (.bool true)], args := [d1, d2, d3, d4] }
  | _ => none }
def cipherStaysRow : OpenClaim := { program := "ytdaonbfdcpkipaadoor", sum := "35acbcdd5a392f2dfd42bef52a7fb1775ec64aec5d03e73a4175c5621cf001ec", func := "obol/obollaw06.CipherStays", spec := "cipherStays", inPlace := ["math/bits.Add64"], unfollowed := true, recurses := true, named := ["obol/cipher.opening", "obol/cipher.places"], apart := false, laid := [("obol/cipher.opening", laid_obol_cipher_opening), ("obol/cipher.places", laid_obol_cipher_places)] }
def CipherStaysSaid : Prop := cipherStaysRow.holds Tryd.pinned (OpenSpec.ofChange cipherStaysSpec)

/-- ITS FALSE NEIGHBOUR: 'it returns false'. Refute it at one input. -/
def cipherStaysWrong : ChangeSpec := { name := "cipherStays", fn := fun _ => fun
  | [d1, d2, d3, d4] => { results := [.lit (.bool false)], args := [d1, d2, d3, d4] }
  | _ => none }
def CipherStaysWrongFalsely : Prop := cipherStaysRow.holds Tryd.pinned (OpenSpec.ofChange cipherStaysWrong)

/- THE SECOND FORM. 'bulk': how many values and letters a reading holds, each counted each time it is reached (what is shared counts as often as it is met; a slice's spare places count too). A statement '..UptoSaid' is the law's where the arguments, and the package variables that the reading takes, are together of bulk at most 1048576: NARROWER than '..Said'. Prove '..Said' where nothing that the law and all that it calls make is longer than what came in: it says more and counts as full. Else prove '..UptoSaid'. A law counts once. -/
mutual
def uptoBulk {H : Type} : DataW H → Nat
  | .lit (.string bytes) => bytes.length + 1
  | .lit _ => 1
  | .nil => 1
  | .ptr d => uptoBulk d + 1
  | .slice elems spare => uptoBulkAll elems + uptoBulkAll spare + 1
  | .agg parts => uptoBulkAll parts + 1
  | .iface _ d => uptoBulk d + 1
  | .map entries => uptoBulkEntries entries + 1
  | .held _ => 1
def uptoBulkAll {H : Type} : List (DataW H) → Nat
  | [] => 0
  | d :: r => uptoBulk d + uptoBulkAll r
def uptoBulkEntries {H : Type} : List (Lit × DataW H) → Nat
  | [] => 0
  | x :: r => uptoBulkEntry x + uptoBulkEntries r
def uptoBulkEntry {H : Type} : Lit × DataW H → Nat
  | (.string bytes, d) => bytes.length + uptoBulk d + 1
  | (_, d) => uptoBulk d + 1
 end
def uptoSmall : (H : Type) → List (DataW H) → Bool := fun _ ds => decide (uptoBulkAll ds ≤ 1048576)
def OpenSpec.upto (s : _root_.Go.ChangeSpec) : _root_.Go.OpenSpec := { _root_.Go.OpenSpec.ofChange s with cond := some uptoSmall }

/-- 'obollaw06.CipherBlocks', WHERE WHAT IT READS IS OF BULK AT MOST 1048576: true; the input reads as it did. -/
def cipherBlocksUptoRow : OpenClaim := { program := "ytdaonbfdcpkipaadoor", sum := "35acbcdd5a392f2dfd42bef52a7fb1775ec64aec5d03e73a4175c5621cf001ec", func := "obol/obollaw06.CipherBlocks", spec := "cipherBlocks", inPlace := ["math/bits.Add64"], unfollowed := true, recurses := true, named := ["obol/cipher.opening", "obol/cipher.places"], apart := false, laid := [("obol/cipher.opening", laid_obol_cipher_opening), ("obol/cipher.places", laid_obol_cipher_places)], narrowed := true }
def CipherBlocksUptoSaid : Prop := cipherBlocksUptoRow.holds Tryd.pinned (OpenSpec.upto cipherBlocksSpec)

/-- 'obollaw06.CipherMarks', WHERE WHAT IT READS IS OF BULK AT MOST 1048576: true; the input reads as it did. -/
def cipherMarksUptoRow : OpenClaim := { program := "ytdaonbfdcpkipaadoor", sum := "35acbcdd5a392f2dfd42bef52a7fb1775ec64aec5d03e73a4175c5621cf001ec", func := "obol/obollaw06.CipherMarks", spec := "cipherMarks", inPlace := ["math/bits.Add64"], unfollowed := true, recurses := true, named := ["obol/cipher.opening", "obol/cipher.places"], apart := false, laid := [("obol/cipher.opening", laid_obol_cipher_opening), ("obol/cipher.places", laid_obol_cipher_places)], narrowed := true }
def CipherMarksUptoSaid : Prop := cipherMarksUptoRow.holds Tryd.pinned (OpenSpec.upto cipherMarksSpec)

/-- 'obollaw06.CipherSeals', WHERE WHAT IT READS IS OF BULK AT MOST 1048576: true; the input reads as it did. -/
def cipherSealsUptoRow : OpenClaim := { program := "ytdaonbfdcpkipaadoor", sum := "35acbcdd5a392f2dfd42bef52a7fb1775ec64aec5d03e73a4175c5621cf001ec", func := "obol/obollaw06.CipherSeals", spec := "cipherSeals", inPlace := ["math/bits.Add64"], unfollowed := true, recurses := true, named := ["obol/cipher.opening", "obol/cipher.places"], apart := false, laid := [("obol/cipher.opening", laid_obol_cipher_opening), ("obol/cipher.places", laid_obol_cipher_places)], narrowed := true }
def CipherSealsUptoSaid : Prop := cipherSealsUptoRow.holds Tryd.pinned (OpenSpec.upto cipherSealsSpec)

/-- 'obollaw06.CipherOpens', WHERE WHAT IT READS IS OF BULK AT MOST 1048576: true; the input reads as it did. -/
def cipherOpensUptoRow : OpenClaim := { program := "ytdaonbfdcpkipaadoor", sum := "35acbcdd5a392f2dfd42bef52a7fb1775ec64aec5d03e73a4175c5621cf001ec", func := "obol/obollaw06.CipherOpens", spec := "cipherOpens", inPlace := ["math/bits.Add64"], unfollowed := true, recurses := true, named := ["obol/cipher.opening", "obol/cipher.places"], apart := false, laid := [("obol/cipher.opening", laid_obol_cipher_opening), ("obol/cipher.places", laid_obol_cipher_places)], narrowed := true }
def CipherOpensUptoSaid : Prop := cipherOpensUptoRow.holds Tryd.pinned (OpenSpec.upto cipherOpensSpec)

/-- 'obollaw06.CipherBack', WHERE WHAT IT READS IS OF BULK AT MOST 1048576: true; the input reads as it did. -/
def cipherBackUptoRow : OpenClaim := { program := "ytdaonbfdcpkipaadoor", sum := "35acbcdd5a392f2dfd42bef52a7fb1775ec64aec5d03e73a4175c5621cf001ec", func := "obol/obollaw06.CipherBack", spec := "cipherBack", inPlace := ["math/bits.Add64"], unfollowed := true, recurses := true, named := ["obol/cipher.opening", "obol/cipher.places"], apart := false, laid := [("obol/cipher.opening", laid_obol_cipher_opening), ("obol/cipher.places", laid_obol_cipher_places)], narrowed := true }
def CipherBackUptoSaid : Prop := cipherBackUptoRow.holds Tryd.pinned (OpenSpec.upto cipherBackSpec)

/-- 'obollaw06.CipherStays', WHERE WHAT IT READS IS OF BULK AT MOST 1048576: true; the input reads as it did. -/
def cipherStaysUptoRow : OpenClaim := { program := "ytdaonbfdcpkipaadoor", sum := "35acbcdd5a392f2dfd42bef52a7fb1775ec64aec5d03e73a4175c5621cf001ec", func := "obol/obollaw06.CipherStays", spec := "cipherStays", inPlace := ["math/bits.Add64"], unfollowed := true, recurses := true, named := ["obol/cipher.opening", "obol/cipher.places"], apart := false, laid := [("obol/cipher.opening", laid_obol_cipher_opening), ("obol/cipher.places", laid_obol_cipher_places)], narrowed := true }
def CipherStaysUptoSaid : Prop := cipherStaysUptoRow.holds Tryd.pinned (OpenSpec.upto cipherStaysSpec)

end Rows
end Go.Proofs.YtdaonbfdcpkipaaDoor
