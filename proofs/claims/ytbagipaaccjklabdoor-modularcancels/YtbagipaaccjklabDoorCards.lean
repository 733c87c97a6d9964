/-
  DERIVED. GIVEN WITH THE SEED: THE CARDS: each row of YtbagipaaccjklabDoorRows.lean that lists a variable, with what it lists TIED to the program's text (the seventh form; the later family's looks); each row that meets fmt, with fmt's text TOLD by the authors' own Lean function (tested against real Go, not proved from fmt's source: count such statements apart). THE CARD IS WHAT COUNTS. Prove the row's statement (the work); the ties are given (YtbagipaaccjklabDoorTie.lean); close each card by the builder's one call (the guide's Derived/Test/ToyasCard.lean, 'card_holds'). Laid BY PROGRAM, IN A SANDBOX (cutbox-door.mjs). By AI agents, Wed Nov 11 2026. No macro, syntax, notation, axiom, sorry.
-/
import Derived.Test.YtbagipaaccjklabDoorRows
import GoSem.ClaimSeven
namespace Go.Proofs.YtbagipaaccjklabDoor
namespace Rows

/-- THE TIED CARD OF 'obollaw01.ModularCancels'. -/
def modularCancelsCard : Claim7 := { stood := { row := modularCancelsRow, standIns := [], harness := (true, "7d53b1af685a5dbd6717c24fdc2ac25d95be04b9a0dea1f0eed49e017081bb19"), looks := true }, kinds := [], alts := [], laidByText := true, laidKinds := [.data], laidTests := true, laidLooks := .later }
def ModularCancelsCardSaid : Prop := Claim7.holds Tryd.pinned (.plain (OpenSpec.ofChange modularCancelsSpec)) modularCancelsCard

/-- THE SECOND FORM's CARD OF 'obollaw01.ModularCancels'. -/
def modularCancelsUptoCard : Claim7 := { stood := { row := modularCancelsUptoRow, standIns := [], harness := (true, "7d53b1af685a5dbd6717c24fdc2ac25d95be04b9a0dea1f0eed49e017081bb19"), looks := true }, kinds := [], alts := [], laidByText := true, laidKinds := [.data], laidTests := true, laidLooks := .later }
def ModularCancelsUptoCardSaid : Prop := Claim7.holds Tryd.pinned (.plain (OpenSpec.upto modularCancelsSpec)) modularCancelsUptoCard
end Rows
end Go.Proofs.YtbagipaaccjklabDoor
