/-
  DERIVED. GIVEN WITH THE SEED: THE CARDS: each row of YtckjojmphdoghaaDoorRows.lean that lists a variable, with what it lists TIED to the program's text (the seventh form; the later family's looks); each row that meets fmt, with fmt's text TOLD by the authors' own Lean function (tested against real Go, not proved from fmt's source: count such statements apart). THE CARD IS WHAT COUNTS. Prove the row's statement (the work); the ties are given (YtckjojmphdoghaaDoorTie.lean); close each card by the builder's one call (the guide's Derived/Test/ToyasCard.lean, 'card_holds'). Laid BY PROGRAM, IN A SANDBOX (cutbox-door.mjs). By AI agents, Wed Nov 11 2026. No macro, syntax, notation, axiom, sorry.
-/
import Derived.Test.YtckjojmphdoghaaDoorRows
import GoSem.ClaimSeven
namespace Go.Proofs.YtckjojmphdoghaaDoor
namespace Rows

/-- THE TIED CARD OF 'obollaw11.RankChecks'. -/
def rankChecksCard : Claim7 := { stood := { row := rankChecksRow, standIns := [], harness := (true, "2f62e835c6f4ae62f8f38e500882fba61f89cf2c7a26957f1cd03b50d495b7e6"), looks := true }, kinds := [], alts := [], laidByText := true, laidKinds := [.handle], laidTests := true, laidLooks := .later }
def RankChecksCardSaid : Prop := Claim7.holds Tryd.pinned (.plain (OpenSpec.ofChange rankChecksSpec)) rankChecksCard

/-- THE TIED CARD OF 'obollaw11.RankValues'. -/
def rankValuesCard : Claim7 := { stood := { row := rankValuesRow, standIns := [], harness := (true, "2f62e835c6f4ae62f8f38e500882fba61f89cf2c7a26957f1cd03b50d495b7e6"), looks := true }, kinds := [], alts := [], laidByText := true, laidKinds := [.handle], laidTests := true, laidLooks := .later }
def RankValuesCardSaid : Prop := Claim7.holds Tryd.pinned (.plain (OpenSpec.ofChange rankValuesSpec)) rankValuesCard

/-- THE TIED CARD OF 'obollaw11.RankHolds'. -/
def rankHoldsCard : Claim7 := { stood := { row := rankHoldsRow, standIns := [], harness := (true, "2f62e835c6f4ae62f8f38e500882fba61f89cf2c7a26957f1cd03b50d495b7e6"), looks := true }, kinds := [], alts := [], laidByText := true, laidKinds := [.handle], laidTests := true, laidLooks := .later }
def RankHoldsCardSaid : Prop := Claim7.holds Tryd.pinned (.plain (OpenSpec.ofChange rankHoldsSpec)) rankHoldsCard

/-- THE TIED CARD OF 'obollaw11.RankOrder'. -/
def rankOrderCard : Claim7 := { stood := { row := rankOrderRow, standIns := [], harness := (true, "2f62e835c6f4ae62f8f38e500882fba61f89cf2c7a26957f1cd03b50d495b7e6"), looks := true }, kinds := [], alts := [], laidByText := true, laidKinds := [.handle], laidTests := true, laidLooks := .later }
def RankOrderCardSaid : Prop := Claim7.holds Tryd.pinned (.plain (OpenSpec.ofChange rankOrderSpec)) rankOrderCard

/-- THE TIED CARD OF 'obollaw11.RankStays'. -/
def rankStaysCard : Claim7 := { stood := { row := rankStaysRow, standIns := [], harness := (true, "2f62e835c6f4ae62f8f38e500882fba61f89cf2c7a26957f1cd03b50d495b7e6"), looks := true }, kinds := [], alts := [], laidByText := true, laidKinds := [.handle], laidTests := true, laidLooks := .later }
def RankStaysCardSaid : Prop := Claim7.holds Tryd.pinned (.plain (OpenSpec.ofChange rankStaysSpec)) rankStaysCard

/-- THE SECOND FORM's CARD OF 'obollaw11.RankChecks'. -/
def rankChecksUptoCard : Claim7 := { stood := { row := rankChecksUptoRow, standIns := [], harness := (true, "2f62e835c6f4ae62f8f38e500882fba61f89cf2c7a26957f1cd03b50d495b7e6"), looks := true }, kinds := [], alts := [], laidByText := true, laidKinds := [.handle], laidTests := true, laidLooks := .later }
def RankChecksUptoCardSaid : Prop := Claim7.holds Tryd.pinned (.plain (OpenSpec.upto rankChecksSpec)) rankChecksUptoCard

/-- THE SECOND FORM's CARD OF 'obollaw11.RankValues'. -/
def rankValuesUptoCard : Claim7 := { stood := { row := rankValuesUptoRow, standIns := [], harness := (true, "2f62e835c6f4ae62f8f38e500882fba61f89cf2c7a26957f1cd03b50d495b7e6"), looks := true }, kinds := [], alts := [], laidByText := true, laidKinds := [.handle], laidTests := true, laidLooks := .later }
def RankValuesUptoCardSaid : Prop := Claim7.holds Tryd.pinned (.plain (OpenSpec.upto rankValuesSpec)) rankValuesUptoCard

/-- THE SECOND FORM's CARD OF 'obollaw11.RankHolds'. -/
def rankHoldsUptoCard : Claim7 := { stood := { row := rankHoldsUptoRow, standIns := [], harness := (true, "2f62e835c6f4ae62f8f38e500882fba61f89cf2c7a26957f1cd03b50d495b7e6"), looks := true }, kinds := [], alts := [], laidByText := true, laidKinds := [.handle], laidTests := true, laidLooks := .later }
def RankHoldsUptoCardSaid : Prop := Claim7.holds Tryd.pinned (.plain (OpenSpec.upto rankHoldsSpec)) rankHoldsUptoCard

/-- THE SECOND FORM's CARD OF 'obollaw11.RankOrder'. -/
def rankOrderUptoCard : Claim7 := { stood := { row := rankOrderUptoRow, standIns := [], harness := (true, "2f62e835c6f4ae62f8f38e500882fba61f89cf2c7a26957f1cd03b50d495b7e6"), looks := true }, kinds := [], alts := [], laidByText := true, laidKinds := [.handle], laidTests := true, laidLooks := .later }
def RankOrderUptoCardSaid : Prop := Claim7.holds Tryd.pinned (.plain (OpenSpec.upto rankOrderSpec)) rankOrderUptoCard

/-- THE SECOND FORM's CARD OF 'obollaw11.RankStays'. -/
def rankStaysUptoCard : Claim7 := { stood := { row := rankStaysUptoRow, standIns := [], harness := (true, "2f62e835c6f4ae62f8f38e500882fba61f89cf2c7a26957f1cd03b50d495b7e6"), looks := true }, kinds := [], alts := [], laidByText := true, laidKinds := [.handle], laidTests := true, laidLooks := .later }
def RankStaysUptoCardSaid : Prop := Claim7.holds Tryd.pinned (.plain (OpenSpec.upto rankStaysSpec)) rankStaysUptoCard
end Rows
end Go.Proofs.YtckjojmphdoghaaDoor
