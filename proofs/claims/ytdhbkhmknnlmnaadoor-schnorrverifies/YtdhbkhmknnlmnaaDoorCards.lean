/-
  DERIVED. GIVEN WITH THE SEED: THE CARDS: each row of YtdhbkhmknnlmnaaDoorRows.lean that lists a variable, with what it lists TIED to the program's text (the seventh form; the later family's looks); each row that meets fmt, with fmt's text TOLD by the authors' own Lean function (tested against real Go, not proved from fmt's source: count such statements apart). THE CARD IS WHAT COUNTS. Prove the row's statement (the work); the ties are given (YtdhbkhmknnlmnaaDoorTie.lean); close each card by the builder's one call (the guide's Derived/Test/ToyasCard.lean, 'card_holds'). Laid BY PROGRAM, IN A SANDBOX (cutbox-door.mjs). By AI agents, Wed Nov 11 2026. No macro, syntax, notation, axiom, sorry.
-/
import Derived.Test.YtdhbkhmknnlmnaaDoorRows
import GoSem.ClaimSeven
namespace Go.Proofs.YtdhbkhmknnlmnaaDoor
namespace Rows

/-- THE TIED CARD OF 'obollaw09.SchnorrPoints'. -/
def schnorrPointsCard : Claim7 := { stood := { row := schnorrPointsRow, standIns := [], harness := (true, "572fcf2ca2ff81e7bebafeb30702e2cabffb1b1eeee6bb7d3e8185dbdf9b4294"), looks := true }, kinds := [], alts := [], laidByText := true, laidKinds := [.data, .data, .data], laidTests := true, laidLooks := .later }
def SchnorrPointsCardSaid : Prop := Claim7.holds Tryd.pinned (.plain (OpenSpec.ofChange schnorrPointsSpec)) schnorrPointsCard

/-- THE TIED CARD OF 'obollaw09.SchnorrSigns'. -/
def schnorrSignsCard : Claim7 := { stood := { row := schnorrSignsRow, standIns := [], harness := (true, "572fcf2ca2ff81e7bebafeb30702e2cabffb1b1eeee6bb7d3e8185dbdf9b4294"), looks := true }, kinds := [], alts := [], laidByText := true, laidKinds := [.data, .data, .data], laidTests := true, laidLooks := .later }
def SchnorrSignsCardSaid : Prop := Claim7.holds Tryd.pinned (.plain (OpenSpec.ofChange schnorrSignsSpec)) schnorrSignsCard

/-- THE TIED CARD OF 'obollaw09.SchnorrVerifies'. -/
def schnorrVerifiesCard : Claim7 := { stood := { row := schnorrVerifiesRow, standIns := [], harness := (true, "572fcf2ca2ff81e7bebafeb30702e2cabffb1b1eeee6bb7d3e8185dbdf9b4294"), looks := true }, kinds := [], alts := [], laidByText := true, laidKinds := [.data, .data, .data], laidTests := true, laidLooks := .later }
def SchnorrVerifiesCardSaid : Prop := Claim7.holds Tryd.pinned (.plain (OpenSpec.ofChange schnorrVerifiesSpec)) schnorrVerifiesCard

/-- THE TIED CARD OF 'obollaw09.SchnorrTurns'. -/
def schnorrTurnsCard : Claim7 := { stood := { row := schnorrTurnsRow, standIns := [], harness := (true, "572fcf2ca2ff81e7bebafeb30702e2cabffb1b1eeee6bb7d3e8185dbdf9b4294"), looks := true }, kinds := [], alts := [], laidByText := true, laidKinds := [.data, .data, .data], laidTests := true, laidLooks := .later }
def SchnorrTurnsCardSaid : Prop := Claim7.holds Tryd.pinned (.plain (OpenSpec.ofChange schnorrTurnsSpec)) schnorrTurnsCard

/-- THE TIED CARD OF 'obollaw09.SchnorrHolds'. -/
def schnorrHoldsCard : Claim7 := { stood := { row := schnorrHoldsRow, standIns := [], harness := (true, "572fcf2ca2ff81e7bebafeb30702e2cabffb1b1eeee6bb7d3e8185dbdf9b4294"), looks := true }, kinds := [], alts := [], laidByText := true, laidKinds := [.data, .data, .data], laidTests := true, laidLooks := .later }
def SchnorrHoldsCardSaid : Prop := Claim7.holds Tryd.pinned (.plain (OpenSpec.ofChange schnorrHoldsSpec)) schnorrHoldsCard

/-- THE TIED CARD OF 'obollaw09.SchnorrStays'. -/
def schnorrStaysCard : Claim7 := { stood := { row := schnorrStaysRow, standIns := [], harness := (true, "572fcf2ca2ff81e7bebafeb30702e2cabffb1b1eeee6bb7d3e8185dbdf9b4294"), looks := true }, kinds := [], alts := [], laidByText := true, laidKinds := [.data, .data, .data], laidTests := true, laidLooks := .later }
def SchnorrStaysCardSaid : Prop := Claim7.holds Tryd.pinned (.plain (OpenSpec.ofChange schnorrStaysSpec)) schnorrStaysCard

/-- THE SECOND FORM's CARD OF 'obollaw09.SchnorrPoints'. -/
def schnorrPointsUptoCard : Claim7 := { stood := { row := schnorrPointsUptoRow, standIns := [], harness := (true, "572fcf2ca2ff81e7bebafeb30702e2cabffb1b1eeee6bb7d3e8185dbdf9b4294"), looks := true }, kinds := [], alts := [], laidByText := true, laidKinds := [.data, .data, .data], laidTests := true, laidLooks := .later }
def SchnorrPointsUptoCardSaid : Prop := Claim7.holds Tryd.pinned (.plain (OpenSpec.upto schnorrPointsSpec)) schnorrPointsUptoCard

/-- THE SECOND FORM's CARD OF 'obollaw09.SchnorrSigns'. -/
def schnorrSignsUptoCard : Claim7 := { stood := { row := schnorrSignsUptoRow, standIns := [], harness := (true, "572fcf2ca2ff81e7bebafeb30702e2cabffb1b1eeee6bb7d3e8185dbdf9b4294"), looks := true }, kinds := [], alts := [], laidByText := true, laidKinds := [.data, .data, .data], laidTests := true, laidLooks := .later }
def SchnorrSignsUptoCardSaid : Prop := Claim7.holds Tryd.pinned (.plain (OpenSpec.upto schnorrSignsSpec)) schnorrSignsUptoCard

/-- THE SECOND FORM's CARD OF 'obollaw09.SchnorrVerifies'. -/
def schnorrVerifiesUptoCard : Claim7 := { stood := { row := schnorrVerifiesUptoRow, standIns := [], harness := (true, "572fcf2ca2ff81e7bebafeb30702e2cabffb1b1eeee6bb7d3e8185dbdf9b4294"), looks := true }, kinds := [], alts := [], laidByText := true, laidKinds := [.data, .data, .data], laidTests := true, laidLooks := .later }
def SchnorrVerifiesUptoCardSaid : Prop := Claim7.holds Tryd.pinned (.plain (OpenSpec.upto schnorrVerifiesSpec)) schnorrVerifiesUptoCard

/-- THE SECOND FORM's CARD OF 'obollaw09.SchnorrTurns'. -/
def schnorrTurnsUptoCard : Claim7 := { stood := { row := schnorrTurnsUptoRow, standIns := [], harness := (true, "572fcf2ca2ff81e7bebafeb30702e2cabffb1b1eeee6bb7d3e8185dbdf9b4294"), looks := true }, kinds := [], alts := [], laidByText := true, laidKinds := [.data, .data, .data], laidTests := true, laidLooks := .later }
def SchnorrTurnsUptoCardSaid : Prop := Claim7.holds Tryd.pinned (.plain (OpenSpec.upto schnorrTurnsSpec)) schnorrTurnsUptoCard

/-- THE SECOND FORM's CARD OF 'obollaw09.SchnorrHolds'. -/
def schnorrHoldsUptoCard : Claim7 := { stood := { row := schnorrHoldsUptoRow, standIns := [], harness := (true, "572fcf2ca2ff81e7bebafeb30702e2cabffb1b1eeee6bb7d3e8185dbdf9b4294"), looks := true }, kinds := [], alts := [], laidByText := true, laidKinds := [.data, .data, .data], laidTests := true, laidLooks := .later }
def SchnorrHoldsUptoCardSaid : Prop := Claim7.holds Tryd.pinned (.plain (OpenSpec.upto schnorrHoldsSpec)) schnorrHoldsUptoCard

/-- THE SECOND FORM's CARD OF 'obollaw09.SchnorrStays'. -/
def schnorrStaysUptoCard : Claim7 := { stood := { row := schnorrStaysUptoRow, standIns := [], harness := (true, "572fcf2ca2ff81e7bebafeb30702e2cabffb1b1eeee6bb7d3e8185dbdf9b4294"), looks := true }, kinds := [], alts := [], laidByText := true, laidKinds := [.data, .data, .data], laidTests := true, laidLooks := .later }
def SchnorrStaysUptoCardSaid : Prop := Claim7.holds Tryd.pinned (.plain (OpenSpec.upto schnorrStaysSpec)) schnorrStaysUptoCard
end Rows
end Go.Proofs.YtdhbkhmknnlmnaaDoor
