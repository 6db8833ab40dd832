/-
  DERIVED. GIVEN WITH THE SEED: THE CARDS: each row of YtaokemapkgggoaaDoorRows.lean that lists a variable, with what it lists TIED to the program's text (the seventh form; the later family's looks); each row that meets fmt, with fmt's text TOLD by the authors' own Lean function (tested against real Go, not proved from fmt's source: count such statements apart). THE CARD IS WHAT COUNTS. Prove the row's statement (the work); the ties are given (YtaokemapkgggoaaDoorTie.lean); close each card by the builder's one call (the guide's Derived/Test/ToyasCard.lean, 'card_holds'). Laid BY PROGRAM, IN A SANDBOX (cutbox-door.mjs). By AI agents, Wed Nov 11 2026. No macro, syntax, notation, axiom, sorry.
-/
import Derived.Test.YtaokemapkgggoaaDoorRows
import GoSem.ClaimSeven
namespace Go.Proofs.YtaokemapkgggoaaDoor
namespace Rows

/-- THE TIED CARD OF 'wardenkeep.Mixed'. -/
def mixedCard : Claim7 := { stood := { row := mixedRow, standIns := [], harness := (true, "6364947cd00f5e42de363a918fd0942dc4ae4b6d25b1f104b886231d51fbd9a1"), looks := true }, kinds := [], alts := [], laidByText := true, laidKinds := [.data, .data], laidTests := true, laidLooks := .later }
def MixedCardSaid : Prop := Claim7.holds Tryd.pinned (.plain (OpenSpec.ofChange mixedSpec)) mixedCard

/-- THE TIED CARD OF 'wardenkeep.Cuts'. -/
def cutsCard : Claim7 := { stood := { row := cutsRow, standIns := [], harness := (true, "6364947cd00f5e42de363a918fd0942dc4ae4b6d25b1f104b886231d51fbd9a1"), looks := true }, kinds := [], alts := [], laidByText := true, laidKinds := [.data, .data], laidTests := true, laidLooks := .later }
def CutsCardSaid : Prop := Claim7.holds Tryd.pinned (.plain (OpenSpec.ofChange cutsSpec)) cutsCard

/-- THE TIED CARD OF 'wardenkeep.Sealed'. -/
def sealedCard : Claim7 := { stood := { row := sealedRow, standIns := [], harness := (true, "6364947cd00f5e42de363a918fd0942dc4ae4b6d25b1f104b886231d51fbd9a1"), looks := true }, kinds := [], alts := [], laidByText := true, laidKinds := [.data, .data], laidTests := true, laidLooks := .later }
def SealedCardSaid : Prop := Claim7.holds Tryd.pinned (.plain (OpenSpec.ofChange sealedSpec)) sealedCard

/-- THE TIED CARD OF 'wardenkeep.Blind'. -/
def blindCard : Claim7 := { stood := { row := blindRow, standIns := [], harness := (true, "6364947cd00f5e42de363a918fd0942dc4ae4b6d25b1f104b886231d51fbd9a1"), looks := true }, kinds := [], alts := [], laidByText := true, laidKinds := [.data, .data], laidTests := true, laidLooks := .later }
def BlindCardSaid : Prop := Claim7.holds Tryd.pinned (.plain (OpenSpec.ofChange blindSpec)) blindCard

/-- THE TIED CARD OF 'wardenkeep.Guarded'. -/
def guardedCard : Claim7 := { stood := { row := guardedRow, standIns := [], harness := (true, "6364947cd00f5e42de363a918fd0942dc4ae4b6d25b1f104b886231d51fbd9a1"), looks := true }, kinds := [], alts := [], laidByText := true, laidKinds := [.data, .data], laidTests := true, laidLooks := .later }
def GuardedCardSaid : Prop := Claim7.holds Tryd.pinned (.plain (OpenSpec.ofChange guardedSpec)) guardedCard

/-- THE TIED CARD OF 'wardenkeep.Torn'. -/
def tornCard : Claim7 := { stood := { row := tornRow, standIns := [], harness := (true, "6364947cd00f5e42de363a918fd0942dc4ae4b6d25b1f104b886231d51fbd9a1"), looks := true }, kinds := [], alts := [], laidByText := true, laidKinds := [.data, .data], laidTests := true, laidLooks := .later }
def TornCardSaid : Prop := Claim7.holds Tryd.pinned (.plain (OpenSpec.ofChange tornSpec)) tornCard

/-- THE TIED CARD OF 'wardenkeep.Opened'. -/
def openedCard : Claim7 := { stood := { row := openedRow, standIns := [], harness := (true, "6364947cd00f5e42de363a918fd0942dc4ae4b6d25b1f104b886231d51fbd9a1"), looks := true }, kinds := [], alts := [], laidByText := true, laidKinds := [.data, .data], laidTests := true, laidLooks := .later }
def OpenedCardSaid : Prop := Claim7.holds Tryd.pinned (.plain (OpenSpec.ofChange openedSpec)) openedCard

/-- THE SECOND FORM's CARD OF 'wardenkeep.Mixed'. -/
def mixedUptoCard : Claim7 := { stood := { row := mixedUptoRow, standIns := [], harness := (true, "6364947cd00f5e42de363a918fd0942dc4ae4b6d25b1f104b886231d51fbd9a1"), looks := true }, kinds := [], alts := [], laidByText := true, laidKinds := [.data, .data], laidTests := true, laidLooks := .later }
def MixedUptoCardSaid : Prop := Claim7.holds Tryd.pinned (.plain (OpenSpec.upto mixedSpec)) mixedUptoCard

/-- THE SECOND FORM's CARD OF 'wardenkeep.Cuts'. -/
def cutsUptoCard : Claim7 := { stood := { row := cutsUptoRow, standIns := [], harness := (true, "6364947cd00f5e42de363a918fd0942dc4ae4b6d25b1f104b886231d51fbd9a1"), looks := true }, kinds := [], alts := [], laidByText := true, laidKinds := [.data, .data], laidTests := true, laidLooks := .later }
def CutsUptoCardSaid : Prop := Claim7.holds Tryd.pinned (.plain (OpenSpec.upto cutsSpec)) cutsUptoCard

/-- THE SECOND FORM's CARD OF 'wardenkeep.Sealed'. -/
def sealedUptoCard : Claim7 := { stood := { row := sealedUptoRow, standIns := [], harness := (true, "6364947cd00f5e42de363a918fd0942dc4ae4b6d25b1f104b886231d51fbd9a1"), looks := true }, kinds := [], alts := [], laidByText := true, laidKinds := [.data, .data], laidTests := true, laidLooks := .later }
def SealedUptoCardSaid : Prop := Claim7.holds Tryd.pinned (.plain (OpenSpec.upto sealedSpec)) sealedUptoCard

/-- THE SECOND FORM's CARD OF 'wardenkeep.Blind'. -/
def blindUptoCard : Claim7 := { stood := { row := blindUptoRow, standIns := [], harness := (true, "6364947cd00f5e42de363a918fd0942dc4ae4b6d25b1f104b886231d51fbd9a1"), looks := true }, kinds := [], alts := [], laidByText := true, laidKinds := [.data, .data], laidTests := true, laidLooks := .later }
def BlindUptoCardSaid : Prop := Claim7.holds Tryd.pinned (.plain (OpenSpec.upto blindSpec)) blindUptoCard

/-- THE SECOND FORM's CARD OF 'wardenkeep.Guarded'. -/
def guardedUptoCard : Claim7 := { stood := { row := guardedUptoRow, standIns := [], harness := (true, "6364947cd00f5e42de363a918fd0942dc4ae4b6d25b1f104b886231d51fbd9a1"), looks := true }, kinds := [], alts := [], laidByText := true, laidKinds := [.data, .data], laidTests := true, laidLooks := .later }
def GuardedUptoCardSaid : Prop := Claim7.holds Tryd.pinned (.plain (OpenSpec.upto guardedSpec)) guardedUptoCard

/-- THE SECOND FORM's CARD OF 'wardenkeep.Torn'. -/
def tornUptoCard : Claim7 := { stood := { row := tornUptoRow, standIns := [], harness := (true, "6364947cd00f5e42de363a918fd0942dc4ae4b6d25b1f104b886231d51fbd9a1"), looks := true }, kinds := [], alts := [], laidByText := true, laidKinds := [.data, .data], laidTests := true, laidLooks := .later }
def TornUptoCardSaid : Prop := Claim7.holds Tryd.pinned (.plain (OpenSpec.upto tornSpec)) tornUptoCard

/-- THE SECOND FORM's CARD OF 'wardenkeep.Opened'. -/
def openedUptoCard : Claim7 := { stood := { row := openedUptoRow, standIns := [], harness := (true, "6364947cd00f5e42de363a918fd0942dc4ae4b6d25b1f104b886231d51fbd9a1"), looks := true }, kinds := [], alts := [], laidByText := true, laidKinds := [.data, .data], laidTests := true, laidLooks := .later }
def OpenedUptoCardSaid : Prop := Claim7.holds Tryd.pinned (.plain (OpenSpec.upto openedSpec)) openedUptoCard
end Rows
end Go.Proofs.YtaokemapkgggoaaDoor
