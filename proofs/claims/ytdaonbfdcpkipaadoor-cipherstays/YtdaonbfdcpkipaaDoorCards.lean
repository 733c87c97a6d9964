/-
  DERIVED. GIVEN WITH THE SEED: THE CARDS: each row of YtdaonbfdcpkipaaDoorRows.lean that lists a variable, with what it lists TIED to the program's text (the seventh form; the later family's looks); each row that meets fmt, with fmt's text TOLD by the authors' own Lean function (tested against real Go, not proved from fmt's source: count such statements apart). THE CARD IS WHAT COUNTS. Prove the row's statement (the work); the ties are given (YtdaonbfdcpkipaaDoorTie.lean); close each card by the builder's one call (the guide's Derived/Test/ToyasCard.lean, 'card_holds'). Laid BY PROGRAM, IN A SANDBOX (cutbox-door.mjs). By AI agents, Wed Nov 11 2026. No macro, syntax, notation, axiom, sorry.
-/
import Derived.Test.YtdaonbfdcpkipaaDoorRows
import GoSem.ClaimSeven
namespace Go.Proofs.YtdaonbfdcpkipaaDoor
namespace Rows

/-- THE TIED CARD OF 'obollaw06.CipherBlocks'. -/
def cipherBlocksCard : Claim7 := { stood := { row := cipherBlocksRow, standIns := [], harness := (true, "14f138c3a4ff594ab0cd161513b6c3b17b034bbfe46aaaabeccbec74fe7c6c11"), looks := true }, kinds := [], alts := [], laidByText := true, laidKinds := [.data, .data], laidTests := true, laidLooks := .later }
def CipherBlocksCardSaid : Prop := Claim7.holds Tryd.pinned (.plain (OpenSpec.ofChange cipherBlocksSpec)) cipherBlocksCard

/-- THE TIED CARD OF 'obollaw06.CipherMarks'. -/
def cipherMarksCard : Claim7 := { stood := { row := cipherMarksRow, standIns := [], harness := (true, "14f138c3a4ff594ab0cd161513b6c3b17b034bbfe46aaaabeccbec74fe7c6c11"), looks := true }, kinds := [], alts := [], laidByText := true, laidKinds := [.data, .data], laidTests := true, laidLooks := .later }
def CipherMarksCardSaid : Prop := Claim7.holds Tryd.pinned (.plain (OpenSpec.ofChange cipherMarksSpec)) cipherMarksCard

/-- THE TIED CARD OF 'obollaw06.CipherSeals'. -/
def cipherSealsCard : Claim7 := { stood := { row := cipherSealsRow, standIns := [], harness := (true, "14f138c3a4ff594ab0cd161513b6c3b17b034bbfe46aaaabeccbec74fe7c6c11"), looks := true }, kinds := [], alts := [], laidByText := true, laidKinds := [.data, .data], laidTests := true, laidLooks := .later }
def CipherSealsCardSaid : Prop := Claim7.holds Tryd.pinned (.plain (OpenSpec.ofChange cipherSealsSpec)) cipherSealsCard

/-- THE TIED CARD OF 'obollaw06.CipherOpens'. -/
def cipherOpensCard : Claim7 := { stood := { row := cipherOpensRow, standIns := [], harness := (true, "14f138c3a4ff594ab0cd161513b6c3b17b034bbfe46aaaabeccbec74fe7c6c11"), looks := true }, kinds := [], alts := [], laidByText := true, laidKinds := [.data, .data], laidTests := true, laidLooks := .later }
def CipherOpensCardSaid : Prop := Claim7.holds Tryd.pinned (.plain (OpenSpec.ofChange cipherOpensSpec)) cipherOpensCard

/-- THE TIED CARD OF 'obollaw06.CipherBack'. -/
def cipherBackCard : Claim7 := { stood := { row := cipherBackRow, standIns := [], harness := (true, "14f138c3a4ff594ab0cd161513b6c3b17b034bbfe46aaaabeccbec74fe7c6c11"), looks := true }, kinds := [], alts := [], laidByText := true, laidKinds := [.data, .data], laidTests := true, laidLooks := .later }
def CipherBackCardSaid : Prop := Claim7.holds Tryd.pinned (.plain (OpenSpec.ofChange cipherBackSpec)) cipherBackCard

/-- THE TIED CARD OF 'obollaw06.CipherStays'. -/
def cipherStaysCard : Claim7 := { stood := { row := cipherStaysRow, standIns := [], harness := (true, "14f138c3a4ff594ab0cd161513b6c3b17b034bbfe46aaaabeccbec74fe7c6c11"), looks := true }, kinds := [], alts := [], laidByText := true, laidKinds := [.data, .data], laidTests := true, laidLooks := .later }
def CipherStaysCardSaid : Prop := Claim7.holds Tryd.pinned (.plain (OpenSpec.ofChange cipherStaysSpec)) cipherStaysCard

/-- THE SECOND FORM's CARD OF 'obollaw06.CipherBlocks'. -/
def cipherBlocksUptoCard : Claim7 := { stood := { row := cipherBlocksUptoRow, standIns := [], harness := (true, "14f138c3a4ff594ab0cd161513b6c3b17b034bbfe46aaaabeccbec74fe7c6c11"), looks := true }, kinds := [], alts := [], laidByText := true, laidKinds := [.data, .data], laidTests := true, laidLooks := .later }
def CipherBlocksUptoCardSaid : Prop := Claim7.holds Tryd.pinned (.plain (OpenSpec.upto cipherBlocksSpec)) cipherBlocksUptoCard

/-- THE SECOND FORM's CARD OF 'obollaw06.CipherMarks'. -/
def cipherMarksUptoCard : Claim7 := { stood := { row := cipherMarksUptoRow, standIns := [], harness := (true, "14f138c3a4ff594ab0cd161513b6c3b17b034bbfe46aaaabeccbec74fe7c6c11"), looks := true }, kinds := [], alts := [], laidByText := true, laidKinds := [.data, .data], laidTests := true, laidLooks := .later }
def CipherMarksUptoCardSaid : Prop := Claim7.holds Tryd.pinned (.plain (OpenSpec.upto cipherMarksSpec)) cipherMarksUptoCard

/-- THE SECOND FORM's CARD OF 'obollaw06.CipherSeals'. -/
def cipherSealsUptoCard : Claim7 := { stood := { row := cipherSealsUptoRow, standIns := [], harness := (true, "14f138c3a4ff594ab0cd161513b6c3b17b034bbfe46aaaabeccbec74fe7c6c11"), looks := true }, kinds := [], alts := [], laidByText := true, laidKinds := [.data, .data], laidTests := true, laidLooks := .later }
def CipherSealsUptoCardSaid : Prop := Claim7.holds Tryd.pinned (.plain (OpenSpec.upto cipherSealsSpec)) cipherSealsUptoCard

/-- THE SECOND FORM's CARD OF 'obollaw06.CipherOpens'. -/
def cipherOpensUptoCard : Claim7 := { stood := { row := cipherOpensUptoRow, standIns := [], harness := (true, "14f138c3a4ff594ab0cd161513b6c3b17b034bbfe46aaaabeccbec74fe7c6c11"), looks := true }, kinds := [], alts := [], laidByText := true, laidKinds := [.data, .data], laidTests := true, laidLooks := .later }
def CipherOpensUptoCardSaid : Prop := Claim7.holds Tryd.pinned (.plain (OpenSpec.upto cipherOpensSpec)) cipherOpensUptoCard

/-- THE SECOND FORM's CARD OF 'obollaw06.CipherBack'. -/
def cipherBackUptoCard : Claim7 := { stood := { row := cipherBackUptoRow, standIns := [], harness := (true, "14f138c3a4ff594ab0cd161513b6c3b17b034bbfe46aaaabeccbec74fe7c6c11"), looks := true }, kinds := [], alts := [], laidByText := true, laidKinds := [.data, .data], laidTests := true, laidLooks := .later }
def CipherBackUptoCardSaid : Prop := Claim7.holds Tryd.pinned (.plain (OpenSpec.upto cipherBackSpec)) cipherBackUptoCard

/-- THE SECOND FORM's CARD OF 'obollaw06.CipherStays'. -/
def cipherStaysUptoCard : Claim7 := { stood := { row := cipherStaysUptoRow, standIns := [], harness := (true, "14f138c3a4ff594ab0cd161513b6c3b17b034bbfe46aaaabeccbec74fe7c6c11"), looks := true }, kinds := [], alts := [], laidByText := true, laidKinds := [.data, .data], laidTests := true, laidLooks := .later }
def CipherStaysUptoCardSaid : Prop := Claim7.holds Tryd.pinned (.plain (OpenSpec.upto cipherStaysSpec)) cipherStaysUptoCard
end Rows
end Go.Proofs.YtdaonbfdcpkipaaDoor
