/-
  DERIVED. GIVEN WITH THE SEED: THE CARDS: each row of YtllgnclbbakliaaDoorRows.lean that lists a variable, with what it lists TIED to the program's text (the seventh form; the later family's looks); each row that meets fmt, with fmt's text TOLD by the authors' own Lean function (tested against real Go, not proved from fmt's source: count such statements apart). THE CARD IS WHAT COUNTS. Prove the row's statement (the work); the ties are given (YtllgnclbbakliaaDoorTie.lean); close each card by the builder's one call (the guide's Derived/Test/ToyasCard.lean, 'card_holds'). Laid BY PROGRAM, IN A SANDBOX (cutbox-door.mjs). By AI agents, Wed Nov 11 2026. No macro, syntax, notation, axiom, sorry.
-/
import Derived.Test.YtllgnclbbakliaaDoorRows
import GoSem.ClaimSeven
namespace Go.Proofs.YtllgnclbbakliaaDoor
namespace Rows

/-- THE TIED CARD OF 'obollaw05.BlakePresses'. -/
def blakePressesCard : Claim7 := { stood := { row := blakePressesRow, standIns := [], harness := (true, "ff0b4f841c9aa46db46a447554754c851a7f608d8792cf1f7daca781317a4e60"), looks := true }, kinds := [], alts := [], laidByText := true, laidKinds := [.data, .data, .data], laidTests := true, laidLooks := .later }
def BlakePressesCardSaid : Prop := Claim7.holds Tryd.pinned (.plain (OpenSpec.ofChange blakePressesSpec)) blakePressesCard

/-- THE TIED CARD OF 'obollaw05.BlakeSums'. -/
def blakeSumsCard : Claim7 := { stood := { row := blakeSumsRow, standIns := [], harness := (true, "ff0b4f841c9aa46db46a447554754c851a7f608d8792cf1f7daca781317a4e60"), looks := true }, kinds := [], alts := [], laidByText := true, laidKinds := [.data, .data, .data], laidTests := true, laidLooks := .later }
def BlakeSumsCardSaid : Prop := Claim7.holds Tryd.pinned (.plain (OpenSpec.ofChange blakeSumsSpec)) blakeSumsCard

/-- THE TIED CARD OF 'obollaw05.BlakeNumbers'. -/
def blakeNumbersCard : Claim7 := { stood := { row := blakeNumbersRow, standIns := [], harness := (true, "ff0b4f841c9aa46db46a447554754c851a7f608d8792cf1f7daca781317a4e60"), looks := true }, kinds := [], alts := [], laidByText := true, laidKinds := [.data, .data, .data], laidTests := true, laidLooks := .later }
def BlakeNumbersCardSaid : Prop := Claim7.holds Tryd.pinned (.plain (OpenSpec.ofChange blakeNumbersSpec)) blakeNumbersCard

/-- THE TIED CARD OF 'obollaw05.BlakePerson'. -/
def blakePersonCard : Claim7 := { stood := { row := blakePersonRow, standIns := [], harness := (true, "ff0b4f841c9aa46db46a447554754c851a7f608d8792cf1f7daca781317a4e60"), looks := true }, kinds := [], alts := [], laidByText := true, laidKinds := [.data, .data, .data], laidTests := true, laidLooks := .later }
def BlakePersonCardSaid : Prop := Claim7.holds Tryd.pinned (.plain (OpenSpec.ofChange blakePersonSpec)) blakePersonCard

/-- THE TIED CARD OF 'obollaw05.BlakeStays'. -/
def blakeStaysCard : Claim7 := { stood := { row := blakeStaysRow, standIns := [], harness := (true, "ff0b4f841c9aa46db46a447554754c851a7f608d8792cf1f7daca781317a4e60"), looks := true }, kinds := [], alts := [], laidByText := true, laidKinds := [.data, .data, .data], laidTests := true, laidLooks := .later }
def BlakeStaysCardSaid : Prop := Claim7.holds Tryd.pinned (.plain (OpenSpec.ofChange blakeStaysSpec)) blakeStaysCard

/-- THE SECOND FORM's CARD OF 'obollaw05.BlakePresses'. -/
def blakePressesUptoCard : Claim7 := { stood := { row := blakePressesUptoRow, standIns := [], harness := (true, "ff0b4f841c9aa46db46a447554754c851a7f608d8792cf1f7daca781317a4e60"), looks := true }, kinds := [], alts := [], laidByText := true, laidKinds := [.data, .data, .data], laidTests := true, laidLooks := .later }
def BlakePressesUptoCardSaid : Prop := Claim7.holds Tryd.pinned (.plain (OpenSpec.upto blakePressesSpec)) blakePressesUptoCard

/-- THE SECOND FORM's CARD OF 'obollaw05.BlakeSums'. -/
def blakeSumsUptoCard : Claim7 := { stood := { row := blakeSumsUptoRow, standIns := [], harness := (true, "ff0b4f841c9aa46db46a447554754c851a7f608d8792cf1f7daca781317a4e60"), looks := true }, kinds := [], alts := [], laidByText := true, laidKinds := [.data, .data, .data], laidTests := true, laidLooks := .later }
def BlakeSumsUptoCardSaid : Prop := Claim7.holds Tryd.pinned (.plain (OpenSpec.upto blakeSumsSpec)) blakeSumsUptoCard

/-- THE SECOND FORM's CARD OF 'obollaw05.BlakeNumbers'. -/
def blakeNumbersUptoCard : Claim7 := { stood := { row := blakeNumbersUptoRow, standIns := [], harness := (true, "ff0b4f841c9aa46db46a447554754c851a7f608d8792cf1f7daca781317a4e60"), looks := true }, kinds := [], alts := [], laidByText := true, laidKinds := [.data, .data, .data], laidTests := true, laidLooks := .later }
def BlakeNumbersUptoCardSaid : Prop := Claim7.holds Tryd.pinned (.plain (OpenSpec.upto blakeNumbersSpec)) blakeNumbersUptoCard

/-- THE SECOND FORM's CARD OF 'obollaw05.BlakePerson'. -/
def blakePersonUptoCard : Claim7 := { stood := { row := blakePersonUptoRow, standIns := [], harness := (true, "ff0b4f841c9aa46db46a447554754c851a7f608d8792cf1f7daca781317a4e60"), looks := true }, kinds := [], alts := [], laidByText := true, laidKinds := [.data, .data, .data], laidTests := true, laidLooks := .later }
def BlakePersonUptoCardSaid : Prop := Claim7.holds Tryd.pinned (.plain (OpenSpec.upto blakePersonSpec)) blakePersonUptoCard

/-- THE SECOND FORM's CARD OF 'obollaw05.BlakeStays'. -/
def blakeStaysUptoCard : Claim7 := { stood := { row := blakeStaysUptoRow, standIns := [], harness := (true, "ff0b4f841c9aa46db46a447554754c851a7f608d8792cf1f7daca781317a4e60"), looks := true }, kinds := [], alts := [], laidByText := true, laidKinds := [.data, .data, .data], laidTests := true, laidLooks := .later }
def BlakeStaysUptoCardSaid : Prop := Claim7.holds Tryd.pinned (.plain (OpenSpec.upto blakeStaysSpec)) blakeStaysUptoCard
end Rows
end Go.Proofs.YtllgnclbbakliaaDoor
