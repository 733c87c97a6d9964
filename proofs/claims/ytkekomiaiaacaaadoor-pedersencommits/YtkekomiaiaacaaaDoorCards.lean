/-
  DERIVED. GIVEN WITH THE SEED: THE CARDS: each row of YtkekomiaiaacaaaDoorRows.lean that lists a variable, with what it lists TIED to the program's text (the seventh form; the later family's looks); each row that meets fmt, with fmt's text TOLD by the authors' own Lean function (tested against real Go, not proved from fmt's source: count such statements apart). THE CARD IS WHAT COUNTS. Prove the row's statement (the work); the ties are given (YtkekomiaiaacaaaDoorTie.lean); close each card by the builder's one call (the guide's Derived/Test/ToyasCard.lean, 'card_holds'). Laid BY PROGRAM, IN A SANDBOX (cutbox-door.mjs). By AI agents, Wed Nov 11 2026. No macro, syntax, notation, axiom, sorry.
-/
import Derived.Test.YtkekomiaiaacaaaDoorRows
import GoSem.ClaimSeven
namespace Go.Proofs.YtkekomiaiaacaaaDoor
namespace Rows

/-- THE TIED CARD OF 'obollaw08.PedersenBases'. -/
def pedersenBasesCard : Claim7 := { stood := { row := pedersenBasesRow, standIns := [], harness := (true, "59077c7cb8f3d3eadc56be01a457fb7c22f3cf96f7767c4ce2f2550883b93253"), looks := true }, kinds := [], alts := [], laidByText := true, laidKinds := [.data, .data, .data, .data], laidTests := true, laidLooks := .later }
def PedersenBasesCardSaid : Prop := Claim7.holds Tryd.pinned (.plain (OpenSpec.ofChange pedersenBasesSpec)) pedersenBasesCard

/-- THE TIED CARD OF 'obollaw08.PedersenCommits'. -/
def pedersenCommitsCard : Claim7 := { stood := { row := pedersenCommitsRow, standIns := [], harness := (true, "59077c7cb8f3d3eadc56be01a457fb7c22f3cf96f7767c4ce2f2550883b93253"), looks := true }, kinds := [], alts := [], laidByText := true, laidKinds := [.data, .data, .data, .data], laidTests := true, laidLooks := .later }
def PedersenCommitsCardSaid : Prop := Claim7.holds Tryd.pinned (.plain (OpenSpec.ofChange pedersenCommitsSpec)) pedersenCommitsCard

/-- THE TIED CARD OF 'obollaw08.PedersenAdds'. -/
def pedersenAddsCard : Claim7 := { stood := { row := pedersenAddsRow, standIns := [], harness := (true, "59077c7cb8f3d3eadc56be01a457fb7c22f3cf96f7767c4ce2f2550883b93253"), looks := true }, kinds := [], alts := [], laidByText := true, laidKinds := [.data, .data, .data, .data], laidTests := true, laidLooks := .later }
def PedersenAddsCardSaid : Prop := Claim7.holds Tryd.pinned (.plain (OpenSpec.ofChange pedersenAddsSpec)) pedersenAddsCard

/-- THE TIED CARD OF 'obollaw08.PedersenTwo'. -/
def pedersenTwoCard : Claim7 := { stood := { row := pedersenTwoRow, standIns := [], harness := (true, "59077c7cb8f3d3eadc56be01a457fb7c22f3cf96f7767c4ce2f2550883b93253"), looks := true }, kinds := [], alts := [], laidByText := true, laidKinds := [.data, .data, .data, .data], laidTests := true, laidLooks := .later }
def PedersenTwoCardSaid : Prop := Claim7.holds Tryd.pinned (.plain (OpenSpec.ofChange pedersenTwoSpec)) pedersenTwoCard

/-- THE TIED CARD OF 'obollaw08.PedersenStays'. -/
def pedersenStaysCard : Claim7 := { stood := { row := pedersenStaysRow, standIns := [], harness := (true, "59077c7cb8f3d3eadc56be01a457fb7c22f3cf96f7767c4ce2f2550883b93253"), looks := true }, kinds := [], alts := [], laidByText := true, laidKinds := [.data, .data, .data, .data], laidTests := true, laidLooks := .later }
def PedersenStaysCardSaid : Prop := Claim7.holds Tryd.pinned (.plain (OpenSpec.ofChange pedersenStaysSpec)) pedersenStaysCard

/-- THE SECOND FORM's CARD OF 'obollaw08.PedersenBases'. -/
def pedersenBasesUptoCard : Claim7 := { stood := { row := pedersenBasesUptoRow, standIns := [], harness := (true, "59077c7cb8f3d3eadc56be01a457fb7c22f3cf96f7767c4ce2f2550883b93253"), looks := true }, kinds := [], alts := [], laidByText := true, laidKinds := [.data, .data, .data, .data], laidTests := true, laidLooks := .later }
def PedersenBasesUptoCardSaid : Prop := Claim7.holds Tryd.pinned (.plain (OpenSpec.upto pedersenBasesSpec)) pedersenBasesUptoCard

/-- THE SECOND FORM's CARD OF 'obollaw08.PedersenCommits'. -/
def pedersenCommitsUptoCard : Claim7 := { stood := { row := pedersenCommitsUptoRow, standIns := [], harness := (true, "59077c7cb8f3d3eadc56be01a457fb7c22f3cf96f7767c4ce2f2550883b93253"), looks := true }, kinds := [], alts := [], laidByText := true, laidKinds := [.data, .data, .data, .data], laidTests := true, laidLooks := .later }
def PedersenCommitsUptoCardSaid : Prop := Claim7.holds Tryd.pinned (.plain (OpenSpec.upto pedersenCommitsSpec)) pedersenCommitsUptoCard

/-- THE SECOND FORM's CARD OF 'obollaw08.PedersenAdds'. -/
def pedersenAddsUptoCard : Claim7 := { stood := { row := pedersenAddsUptoRow, standIns := [], harness := (true, "59077c7cb8f3d3eadc56be01a457fb7c22f3cf96f7767c4ce2f2550883b93253"), looks := true }, kinds := [], alts := [], laidByText := true, laidKinds := [.data, .data, .data, .data], laidTests := true, laidLooks := .later }
def PedersenAddsUptoCardSaid : Prop := Claim7.holds Tryd.pinned (.plain (OpenSpec.upto pedersenAddsSpec)) pedersenAddsUptoCard

/-- THE SECOND FORM's CARD OF 'obollaw08.PedersenTwo'. -/
def pedersenTwoUptoCard : Claim7 := { stood := { row := pedersenTwoUptoRow, standIns := [], harness := (true, "59077c7cb8f3d3eadc56be01a457fb7c22f3cf96f7767c4ce2f2550883b93253"), looks := true }, kinds := [], alts := [], laidByText := true, laidKinds := [.data, .data, .data, .data], laidTests := true, laidLooks := .later }
def PedersenTwoUptoCardSaid : Prop := Claim7.holds Tryd.pinned (.plain (OpenSpec.upto pedersenTwoSpec)) pedersenTwoUptoCard

/-- THE SECOND FORM's CARD OF 'obollaw08.PedersenStays'. -/
def pedersenStaysUptoCard : Claim7 := { stood := { row := pedersenStaysUptoRow, standIns := [], harness := (true, "59077c7cb8f3d3eadc56be01a457fb7c22f3cf96f7767c4ce2f2550883b93253"), looks := true }, kinds := [], alts := [], laidByText := true, laidKinds := [.data, .data, .data, .data], laidTests := true, laidLooks := .later }
def PedersenStaysUptoCardSaid : Prop := Claim7.holds Tryd.pinned (.plain (OpenSpec.upto pedersenStaysSpec)) pedersenStaysUptoCard
end Rows
end Go.Proofs.YtkekomiaiaacaaaDoor
