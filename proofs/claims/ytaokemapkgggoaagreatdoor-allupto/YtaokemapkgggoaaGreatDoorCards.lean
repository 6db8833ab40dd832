/-
  DERIVED. GIVEN WITH THE SEED: THE CARDS: each row of YtaokemapkgggoaaGreatDoorRows.lean that lists a variable, with what it lists TIED to the program's text (the seventh form; the later family's looks); each row that meets fmt, with fmt's text TOLD by the authors' own Lean function (tested against real Go, not proved from fmt's source: count such statements apart). THE CARD IS WHAT COUNTS. Prove the row's statement (the work); the ties are given (YtaokemapkgggoaaGreatDoorTie.lean); close each card by the builder's one call (the guide's Derived/Test/ToyasCard.lean, 'card_holds'). Laid BY PROGRAM, IN A SANDBOX (cutbox-door.mjs). By AI agents, Wed Nov 11 2026. No macro, syntax, notation, axiom, sorry.
-/
import Derived.Test.YtaokemapkgggoaaGreatDoorRows
import GoSem.ClaimSeven
namespace Go.Proofs.YtaokemapkgggoaaGreatDoor
namespace Rows

/-- THE TIED CARD OF 'wardenlaw.Sums'. -/
def sumsCard : Claim7 := { stood := { row := sumsRow, standIns := [], harness := (true, "c3d6bd9c4396b1f8c9ca5eba4ee7008e62bf962ca4de117c9dfe8909f9beca05"), looks := true }, kinds := [], alts := [], laidByText := true, laidKinds := [.data, .data], laidTests := true, laidLooks := .later }
def SumsCardSaid : Prop := Claim7.holds Tryz.pinned (.plain (OpenSpec.ofChange sumsSpec)) sumsCard

/-- THE TIED CARD OF 'wardenlaw.Fed'. -/
def fedCard : Claim7 := { stood := { row := fedRow, standIns := [], harness := (true, "c3d6bd9c4396b1f8c9ca5eba4ee7008e62bf962ca4de117c9dfe8909f9beca05"), looks := true }, kinds := [], alts := [], laidByText := true, laidKinds := [.data, .data], laidTests := true, laidLooks := .later }
def FedCardSaid : Prop := Claim7.holds Tryz.pinned (.plain (OpenSpec.ofChange fedSpec)) fedCard

/-- THE TIED CARD OF 'wardenlaw.All'. -/
def allCard : Claim7 := { stood := { row := allRow, standIns := [], harness := (true, "c3d6bd9c4396b1f8c9ca5eba4ee7008e62bf962ca4de117c9dfe8909f9beca05"), looks := true }, kinds := [], alts := [], laidByText := true, laidKinds := [.data, .data], laidTests := true, laidLooks := .later }
def AllCardSaid : Prop := Claim7.holds Tryz.pinned (.plain (OpenSpec.ofChange allSpec)) allCard

/-- THE SECOND FORM's CARD OF 'wardenlaw.Sums'. -/
def sumsUptoCard : Claim7 := { stood := { row := sumsUptoRow, standIns := [], harness := (true, "c3d6bd9c4396b1f8c9ca5eba4ee7008e62bf962ca4de117c9dfe8909f9beca05"), looks := true }, kinds := [], alts := [], laidByText := true, laidKinds := [.data, .data], laidTests := true, laidLooks := .later }
def SumsUptoCardSaid : Prop := Claim7.holds Tryz.pinned (.plain (OpenSpec.upto sumsSpec)) sumsUptoCard

/-- THE SECOND FORM's CARD OF 'wardenlaw.Fed'. -/
def fedUptoCard : Claim7 := { stood := { row := fedUptoRow, standIns := [], harness := (true, "c3d6bd9c4396b1f8c9ca5eba4ee7008e62bf962ca4de117c9dfe8909f9beca05"), looks := true }, kinds := [], alts := [], laidByText := true, laidKinds := [.data, .data], laidTests := true, laidLooks := .later }
def FedUptoCardSaid : Prop := Claim7.holds Tryz.pinned (.plain (OpenSpec.upto fedSpec)) fedUptoCard

/-- THE SECOND FORM's CARD OF 'wardenlaw.All'. -/
def allUptoCard : Claim7 := { stood := { row := allUptoRow, standIns := [], harness := (true, "c3d6bd9c4396b1f8c9ca5eba4ee7008e62bf962ca4de117c9dfe8909f9beca05"), looks := true }, kinds := [], alts := [], laidByText := true, laidKinds := [.data, .data], laidTests := true, laidLooks := .later }
def AllUptoCardSaid : Prop := Claim7.holds Tryz.pinned (.plain (OpenSpec.upto allSpec)) allUptoCard
end Rows
end Go.Proofs.YtaokemapkgggoaaGreatDoor
