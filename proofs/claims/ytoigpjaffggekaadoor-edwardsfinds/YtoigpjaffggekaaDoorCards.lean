/-
  DERIVED. GIVEN WITH THE SEED: THE CARDS: each row of YtoigpjaffggekaaDoorRows.lean that lists a variable, with what it lists TIED to the program's text (the seventh form; the later family's looks); each row that meets fmt, with fmt's text TOLD by the authors' own Lean function (tested against real Go, not proved from fmt's source: count such statements apart). THE CARD IS WHAT COUNTS. Prove the row's statement (the work); the ties are given (YtoigpjaffggekaaDoorTie.lean); close each card by the builder's one call (the guide's Derived/Test/ToyasCard.lean, 'card_holds'). Laid BY PROGRAM, IN A SANDBOX (cutbox-door.mjs). By AI agents, Wed Nov 11 2026. No macro, syntax, notation, axiom, sorry.
-/
import Derived.Test.YtoigpjaffggekaaDoorRows
import GoSem.ClaimSeven
namespace Go.Proofs.YtoigpjaffggekaaDoor
namespace Rows

/-- THE TIED CARD OF 'obollaw07.EdwardsFinds'. -/
def edwardsFindsCard : Claim7 := { stood := { row := edwardsFindsRow, standIns := [], harness := (true, "562993ddc33b828666c7164ab467f24612758037ea613cc77ed89ab117375a55"), looks := true }, kinds := [], alts := [], laidByText := true, laidKinds := [.data, .data, .data, .data], laidTests := true, laidLooks := .later }
def EdwardsFindsCardSaid : Prop := Claim7.holds Tryd.pinned (.plain (OpenSpec.ofChange edwardsFindsSpec)) edwardsFindsCard

/-- THE TIED CARD OF 'obollaw07.EdwardsWrites'. -/
def edwardsWritesCard : Claim7 := { stood := { row := edwardsWritesRow, standIns := [], harness := (true, "562993ddc33b828666c7164ab467f24612758037ea613cc77ed89ab117375a55"), looks := true }, kinds := [], alts := [], laidByText := true, laidKinds := [.data], laidTests := true, laidLooks := .later }
def EdwardsWritesCardSaid : Prop := Claim7.holds Tryd.pinned (.plain (OpenSpec.ofChange edwardsWritesSpec)) edwardsWritesCard

/-- THE TIED CARD OF 'obollaw07.EdwardsReads'. -/
def edwardsReadsCard : Claim7 := { stood := { row := edwardsReadsRow, standIns := [], harness := (true, "562993ddc33b828666c7164ab467f24612758037ea613cc77ed89ab117375a55"), looks := true }, kinds := [], alts := [], laidByText := true, laidKinds := [.data], laidTests := true, laidLooks := .later }
def EdwardsReadsCardSaid : Prop := Claim7.holds Tryd.pinned (.plain (OpenSpec.ofChange edwardsReadsSpec)) edwardsReadsCard

/-- THE SECOND FORM's CARD OF 'obollaw07.EdwardsFinds'. -/
def edwardsFindsUptoCard : Claim7 := { stood := { row := edwardsFindsUptoRow, standIns := [], harness := (true, "562993ddc33b828666c7164ab467f24612758037ea613cc77ed89ab117375a55"), looks := true }, kinds := [], alts := [], laidByText := true, laidKinds := [.data, .data, .data, .data], laidTests := true, laidLooks := .later }
def EdwardsFindsUptoCardSaid : Prop := Claim7.holds Tryd.pinned (.plain (OpenSpec.upto edwardsFindsSpec)) edwardsFindsUptoCard

/-- THE SECOND FORM's CARD OF 'obollaw07.EdwardsWrites'. -/
def edwardsWritesUptoCard : Claim7 := { stood := { row := edwardsWritesUptoRow, standIns := [], harness := (true, "562993ddc33b828666c7164ab467f24612758037ea613cc77ed89ab117375a55"), looks := true }, kinds := [], alts := [], laidByText := true, laidKinds := [.data], laidTests := true, laidLooks := .later }
def EdwardsWritesUptoCardSaid : Prop := Claim7.holds Tryd.pinned (.plain (OpenSpec.upto edwardsWritesSpec)) edwardsWritesUptoCard

/-- THE SECOND FORM's CARD OF 'obollaw07.EdwardsReads'. -/
def edwardsReadsUptoCard : Claim7 := { stood := { row := edwardsReadsUptoRow, standIns := [], harness := (true, "562993ddc33b828666c7164ab467f24612758037ea613cc77ed89ab117375a55"), looks := true }, kinds := [], alts := [], laidByText := true, laidKinds := [.data], laidTests := true, laidLooks := .later }
def EdwardsReadsUptoCardSaid : Prop := Claim7.holds Tryd.pinned (.plain (OpenSpec.upto edwardsReadsSpec)) edwardsReadsUptoCard
end Rows
end Go.Proofs.YtoigpjaffggekaaDoor
