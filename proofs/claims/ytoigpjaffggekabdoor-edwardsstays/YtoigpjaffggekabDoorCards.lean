/-
  DERIVED. GIVEN WITH THE SEED: THE CARDS: each row of YtoigpjaffggekabDoorRows.lean that lists a variable, with what it lists TIED to the program's text (the seventh form; the later family's looks); each row that meets fmt, with fmt's text TOLD by the authors' own Lean function (tested against real Go, not proved from fmt's source: count such statements apart). THE CARD IS WHAT COUNTS. Prove the row's statement (the work); the ties are given (YtoigpjaffggekabDoorTie.lean); close each card by the builder's one call (the guide's Derived/Test/ToyasCard.lean, 'card_holds'). Laid BY PROGRAM, IN A SANDBOX (cutbox-door.mjs). By AI agents, Wed Nov 11 2026. No macro, syntax, notation, axiom, sorry.
-/
import Derived.Test.YtoigpjaffggekabDoorRows
import GoSem.ClaimSeven
namespace Go.Proofs.YtoigpjaffggekabDoor
namespace Rows

/-- THE TIED CARD OF 'obollaw07.EdwardsGroup'. -/
def edwardsGroupCard : Claim7 := { stood := { row := edwardsGroupRow, standIns := [], harness := (true, "d504cac8a26a5e63c9a12276dec6fdffa13f297999fc39e26eb1e73906685eee"), looks := false }, kinds := [], alts := [], laidByText := true, laidKinds := [.data, .data, .data, .data], laidTests := true, laidLooks := .later }
def EdwardsGroupCardSaid : Prop := Claim7.holds Tryd.pinned (.plain (OpenSpec.ofChange edwardsGroupSpec)) edwardsGroupCard

/-- THE TIED CARD OF 'obollaw07.EdwardsStays'. -/
def edwardsStaysCard : Claim7 := { stood := { row := edwardsStaysRow, standIns := [], harness := (true, "d504cac8a26a5e63c9a12276dec6fdffa13f297999fc39e26eb1e73906685eee"), looks := false }, kinds := [], alts := [], laidByText := true, laidKinds := [.data], laidTests := true, laidLooks := .later }
def EdwardsStaysCardSaid : Prop := Claim7.holds Tryd.pinned (.plain (OpenSpec.ofChange edwardsStaysSpec)) edwardsStaysCard

/-- THE SECOND FORM's CARD OF 'obollaw07.EdwardsGroup'. -/
def edwardsGroupUptoCard : Claim7 := { stood := { row := edwardsGroupUptoRow, standIns := [], harness := (true, "d504cac8a26a5e63c9a12276dec6fdffa13f297999fc39e26eb1e73906685eee"), looks := false }, kinds := [], alts := [], laidByText := true, laidKinds := [.data, .data, .data, .data], laidTests := true, laidLooks := .later }
def EdwardsGroupUptoCardSaid : Prop := Claim7.holds Tryd.pinned (.plain (OpenSpec.upto edwardsGroupSpec)) edwardsGroupUptoCard

/-- THE SECOND FORM's CARD OF 'obollaw07.EdwardsStays'. -/
def edwardsStaysUptoCard : Claim7 := { stood := { row := edwardsStaysUptoRow, standIns := [], harness := (true, "d504cac8a26a5e63c9a12276dec6fdffa13f297999fc39e26eb1e73906685eee"), looks := false }, kinds := [], alts := [], laidByText := true, laidKinds := [.data], laidTests := true, laidLooks := .later }
def EdwardsStaysUptoCardSaid : Prop := Claim7.holds Tryd.pinned (.plain (OpenSpec.upto edwardsStaysSpec)) edwardsStaysUptoCard
end Rows
end Go.Proofs.YtoigpjaffggekabDoor
