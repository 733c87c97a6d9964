/-
  DERIVED. GIVEN WITH THE SEED: THE CARDS: each row of YtbagipaaccjklaaDoorRows.lean that lists a variable, with what it lists TIED to the program's text (the seventh form; the later family's looks); each row that meets fmt, with fmt's text TOLD by the authors' own Lean function (tested against real Go, not proved from fmt's source: count such statements apart). THE CARD IS WHAT COUNTS. Prove the row's statement (the work); the ties are given (YtbagipaaccjklaaDoorTie.lean); close each card by the builder's one call (the guide's Derived/Test/ToyasCard.lean, 'card_holds'). Laid BY PROGRAM, IN A SANDBOX (cutbox-door.mjs). By AI agents, Wed Nov 11 2026. No macro, syntax, notation, axiom, sorry.
-/
import Derived.Test.YtbagipaaccjklaaDoorRows
import GoSem.ClaimSeven
namespace Go.Proofs.YtbagipaaccjklaaDoor
namespace Rows

/-- THE TIED CARD OF 'obollaw01.ModularAdds'. -/
def modularAddsCard : Claim7 := { stood := { row := modularAddsRow, standIns := [], harness := (true, "634eafff9d4fc888f0fd30b6f7834a8c3d0b0e8819c4dedfe945536167db9348"), looks := true }, kinds := [], alts := [], laidByText := true, laidKinds := [.data], laidTests := true, laidLooks := .later }
def ModularAddsCardSaid : Prop := Claim7.holds Tryd.pinned (.plain (OpenSpec.ofChange modularAddsSpec)) modularAddsCard

/-- THE TIED CARD OF 'obollaw01.ModularMuls'. -/
def modularMulsCard : Claim7 := { stood := { row := modularMulsRow, standIns := [], harness := (true, "634eafff9d4fc888f0fd30b6f7834a8c3d0b0e8819c4dedfe945536167db9348"), looks := true }, kinds := [], alts := [], laidByText := true, laidKinds := [.data], laidTests := true, laidLooks := .later }
def ModularMulsCardSaid : Prop := Claim7.holds Tryd.pinned (.plain (OpenSpec.ofChange modularMulsSpec)) modularMulsCard

/-- THE TIED CARD OF 'obollaw01.ModularPows'. -/
def modularPowsCard : Claim7 := { stood := { row := modularPowsRow, standIns := [], harness := (true, "634eafff9d4fc888f0fd30b6f7834a8c3d0b0e8819c4dedfe945536167db9348"), looks := true }, kinds := [], alts := [], laidByText := true, laidKinds := [.data], laidTests := true, laidLooks := .later }
def ModularPowsCardSaid : Prop := Claim7.holds Tryd.pinned (.plain (OpenSpec.ofChange modularPowsSpec)) modularPowsCard

/-- THE TIED CARD OF 'obollaw01.ModularInverts'. -/
def modularInvertsCard : Claim7 := { stood := { row := modularInvertsRow, standIns := [], harness := (true, "634eafff9d4fc888f0fd30b6f7834a8c3d0b0e8819c4dedfe945536167db9348"), looks := true }, kinds := [], alts := [], laidByText := true, laidKinds := [.data], laidTests := true, laidLooks := .later }
def ModularInvertsCardSaid : Prop := Claim7.holds Tryd.pinned (.plain (OpenSpec.ofChange modularInvertsSpec)) modularInvertsCard

/-- THE TIED CARD OF 'obollaw01.ModularRoots'. -/
def modularRootsCard : Claim7 := { stood := { row := modularRootsRow, standIns := [], harness := (true, "634eafff9d4fc888f0fd30b6f7834a8c3d0b0e8819c4dedfe945536167db9348"), looks := true }, kinds := [], alts := [], laidByText := true, laidKinds := [.data], laidTests := true, laidLooks := .later }
def ModularRootsCardSaid : Prop := Claim7.holds Tryd.pinned (.plain (OpenSpec.ofChange modularRootsSpec)) modularRootsCard

/-- THE TIED CARD OF 'obollaw01.ModularRing'. -/
def modularRingCard : Claim7 := { stood := { row := modularRingRow, standIns := [], harness := (true, "634eafff9d4fc888f0fd30b6f7834a8c3d0b0e8819c4dedfe945536167db9348"), looks := true }, kinds := [], alts := [], laidByText := true, laidKinds := [.data], laidTests := true, laidLooks := .later }
def ModularRingCardSaid : Prop := Claim7.holds Tryd.pinned (.plain (OpenSpec.ofChange modularRingSpec)) modularRingCard

/-- THE SECOND FORM's CARD OF 'obollaw01.ModularAdds'. -/
def modularAddsUptoCard : Claim7 := { stood := { row := modularAddsUptoRow, standIns := [], harness := (true, "634eafff9d4fc888f0fd30b6f7834a8c3d0b0e8819c4dedfe945536167db9348"), looks := true }, kinds := [], alts := [], laidByText := true, laidKinds := [.data], laidTests := true, laidLooks := .later }
def ModularAddsUptoCardSaid : Prop := Claim7.holds Tryd.pinned (.plain (OpenSpec.upto modularAddsSpec)) modularAddsUptoCard

/-- THE SECOND FORM's CARD OF 'obollaw01.ModularMuls'. -/
def modularMulsUptoCard : Claim7 := { stood := { row := modularMulsUptoRow, standIns := [], harness := (true, "634eafff9d4fc888f0fd30b6f7834a8c3d0b0e8819c4dedfe945536167db9348"), looks := true }, kinds := [], alts := [], laidByText := true, laidKinds := [.data], laidTests := true, laidLooks := .later }
def ModularMulsUptoCardSaid : Prop := Claim7.holds Tryd.pinned (.plain (OpenSpec.upto modularMulsSpec)) modularMulsUptoCard

/-- THE SECOND FORM's CARD OF 'obollaw01.ModularPows'. -/
def modularPowsUptoCard : Claim7 := { stood := { row := modularPowsUptoRow, standIns := [], harness := (true, "634eafff9d4fc888f0fd30b6f7834a8c3d0b0e8819c4dedfe945536167db9348"), looks := true }, kinds := [], alts := [], laidByText := true, laidKinds := [.data], laidTests := true, laidLooks := .later }
def ModularPowsUptoCardSaid : Prop := Claim7.holds Tryd.pinned (.plain (OpenSpec.upto modularPowsSpec)) modularPowsUptoCard

/-- THE SECOND FORM's CARD OF 'obollaw01.ModularInverts'. -/
def modularInvertsUptoCard : Claim7 := { stood := { row := modularInvertsUptoRow, standIns := [], harness := (true, "634eafff9d4fc888f0fd30b6f7834a8c3d0b0e8819c4dedfe945536167db9348"), looks := true }, kinds := [], alts := [], laidByText := true, laidKinds := [.data], laidTests := true, laidLooks := .later }
def ModularInvertsUptoCardSaid : Prop := Claim7.holds Tryd.pinned (.plain (OpenSpec.upto modularInvertsSpec)) modularInvertsUptoCard

/-- THE SECOND FORM's CARD OF 'obollaw01.ModularRoots'. -/
def modularRootsUptoCard : Claim7 := { stood := { row := modularRootsUptoRow, standIns := [], harness := (true, "634eafff9d4fc888f0fd30b6f7834a8c3d0b0e8819c4dedfe945536167db9348"), looks := true }, kinds := [], alts := [], laidByText := true, laidKinds := [.data], laidTests := true, laidLooks := .later }
def ModularRootsUptoCardSaid : Prop := Claim7.holds Tryd.pinned (.plain (OpenSpec.upto modularRootsSpec)) modularRootsUptoCard

/-- THE SECOND FORM's CARD OF 'obollaw01.ModularRing'. -/
def modularRingUptoCard : Claim7 := { stood := { row := modularRingUptoRow, standIns := [], harness := (true, "634eafff9d4fc888f0fd30b6f7834a8c3d0b0e8819c4dedfe945536167db9348"), looks := true }, kinds := [], alts := [], laidByText := true, laidKinds := [.data], laidTests := true, laidLooks := .later }
def ModularRingUptoCardSaid : Prop := Claim7.holds Tryd.pinned (.plain (OpenSpec.upto modularRingSpec)) modularRingUptoCard
end Rows
end Go.Proofs.YtbagipaaccjklaaDoor
