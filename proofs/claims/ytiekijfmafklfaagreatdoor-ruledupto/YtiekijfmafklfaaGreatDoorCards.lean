/-
  DERIVED. GIVEN WITH THE SEED: THE CARDS: each row of YtiekijfmafklfaaGreatDoorRows.lean that lists a variable, with what it lists TIED to the program's text (the seventh form; the later family's looks); each row that meets fmt, with fmt's text TOLD by the authors' own Lean function (tested against real Go, not proved from fmt's source: count such statements apart). THE CARD IS WHAT COUNTS. Prove the row's statement (the work); the ties are given (YtiekijfmafklfaaGreatDoorTie.lean); close each card by the builder's one call (the guide's Derived/Test/ToyasCard.lean, 'card_holds'). Laid BY PROGRAM, IN A SANDBOX (cutbox-door.mjs). By AI agents, Wed Nov 11 2026. No macro, syntax, notation, axiom, sorry.
-/
import Derived.Test.YtiekijfmafklfaaGreatDoorRows
import GoSem.ClaimSeven
namespace Go.Proofs.YtiekijfmafklfaaGreatDoor
namespace Rows

/-- THE TIED CARD OF 'veillaw.Checked'. -/
def checkedCard : Claim7 := { stood := { row := checkedRow, standIns := [], harness := (true, "dc14829d1715100a3e20367cbdcbe93f3edc598fd440cc4a7df6b6d644706e7e"), looks := true }, kinds := [], alts := [], laidByText := true, laidKinds := [.data, .data, .data, .data, .handle, .sentinel, .sentinel, .pinned], laidTests := true, laidLooks := .later }
def CheckedCardSaid : Prop := Claim7.holds Tryz.pinned (.plain (OpenSpec.ofChange checkedSpec)) checkedCard

/-- THE TIED CARD OF 'veillaw.Ruled'. -/
def ruledCard : Claim7 := { stood := { row := ruledRow, standIns := [], harness := (true, "dc14829d1715100a3e20367cbdcbe93f3edc598fd440cc4a7df6b6d644706e7e"), looks := true }, kinds := [], alts := [], laidByText := true, laidKinds := [.data, .data, .data, .data, .handle, .sentinel, .sentinel, .pinned], laidTests := true, laidLooks := .later }
def RuledCardSaid : Prop := Claim7.holds Tryz.pinned (.plain (OpenSpec.ofChange ruledSpec)) ruledCard

/-- THE SECOND FORM's CARD OF 'veillaw.Checked'. -/
def checkedUptoCard : Claim7 := { stood := { row := checkedUptoRow, standIns := [], harness := (true, "dc14829d1715100a3e20367cbdcbe93f3edc598fd440cc4a7df6b6d644706e7e"), looks := true }, kinds := [], alts := [], laidByText := true, laidKinds := [.data, .data, .data, .data, .handle, .sentinel, .sentinel, .pinned], laidTests := true, laidLooks := .later }
def CheckedUptoCardSaid : Prop := Claim7.holds Tryz.pinned (.plain (OpenSpec.upto checkedSpec)) checkedUptoCard

/-- THE SECOND FORM's CARD OF 'veillaw.Ruled'. -/
def ruledUptoCard : Claim7 := { stood := { row := ruledUptoRow, standIns := [], harness := (true, "dc14829d1715100a3e20367cbdcbe93f3edc598fd440cc4a7df6b6d644706e7e"), looks := true }, kinds := [], alts := [], laidByText := true, laidKinds := [.data, .data, .data, .data, .handle, .sentinel, .sentinel, .pinned], laidTests := true, laidLooks := .later }
def RuledUptoCardSaid : Prop := Claim7.holds Tryz.pinned (.plain (OpenSpec.upto ruledSpec)) ruledUptoCard
end Rows
end Go.Proofs.YtiekijfmafklfaaGreatDoor
