/-
  DERIVED. GIVEN WITH THE SEED: THE CARDS: each row of YtnpjldffciociaaGreatDoorRows.lean that lists a variable, with what it lists TIED to the program's text (the seventh form; the later family's looks); each row that meets fmt, with fmt's text TOLD by the authors' own Lean function (tested against real Go, not proved from fmt's source: count such statements apart). THE CARD IS WHAT COUNTS. Prove the row's statement (the work); the ties are given (YtnpjldffciociaaGreatDoorTie.lean); close each card by the builder's one call (the guide's Derived/Test/ToyasCard.lean, 'card_holds'). Laid BY PROGRAM, IN A SANDBOX (cutbox-door.mjs). By AI agents, Wed Nov 11 2026. No macro, syntax, notation, axiom, sorry.
-/
import Derived.Test.YtnpjldffciociaaGreatDoorRows
import GoSem.ClaimSeven
namespace Go.Proofs.YtnpjldffciociaaGreatDoor
namespace Rows

/-- THE TIED CARD OF 'veillaw.Checked'. -/
def checkedCard : Claim7 := { stood := { row := checkedRow, standIns := [], harness := (true, "aedf35abe37a438604033a702adad3e39fb87efb3311343a383fcd88b52a4f83"), looks := true }, kinds := [], alts := [], goes := true, laidByText := true, laidKinds := [.data, .data, .data, .data, .handle, .sentinel, .sentinel, .pinned], laidTests := true, laidLooks := .later }
def CheckedCardSaid : Prop := Claim7.holds Tryz.pinned (.plain (OpenSpec.ofChange checkedSpec)) checkedCard

/-- THE TIED CARD OF 'veillaw.Ruled'. -/
def ruledCard : Claim7 := { stood := { row := ruledRow, standIns := [], harness := (true, "aedf35abe37a438604033a702adad3e39fb87efb3311343a383fcd88b52a4f83"), looks := true }, kinds := [], alts := [], goes := true, laidByText := true, laidKinds := [.data, .data, .data, .data, .handle, .sentinel, .sentinel, .pinned], laidTests := true, laidLooks := .later }
def RuledCardSaid : Prop := Claim7.holds Tryz.pinned (.plain (OpenSpec.ofChange ruledSpec)) ruledCard

/-- THE TIED CARD OF 'veillaw.Served'. -/
def servedCard : Claim7 := { stood := { row := servedRow, standIns := [], harness := (true, "aedf35abe37a438604033a702adad3e39fb87efb3311343a383fcd88b52a4f83"), looks := true }, kinds := [], alts := [], goes := true, laidByText := true, laidKinds := [.data, .data, .data, .data, .handle, .sentinel, .sentinel, .pinned], laidTests := true, laidLooks := .later }
def ServedCardSaid : Prop := Claim7.holds Tryz.pinned (.plain (OpenSpec.ofChange servedSpec)) servedCard

/-- THE TIED CARD OF 'veillaw.Servers'. -/
def serversCard : Claim7 := { stood := { row := serversRow, standIns := [], harness := (true, "aedf35abe37a438604033a702adad3e39fb87efb3311343a383fcd88b52a4f83"), looks := true }, kinds := [], alts := [], goes := true, laidByText := true, laidKinds := [.data, .data, .data, .data, .handle, .sentinel, .sentinel, .pinned], laidTests := true, laidLooks := .later }
def ServersCardSaid : Prop := Claim7.holds Tryz.pinned (.plain (OpenSpec.ofChange serversSpec)) serversCard

/-- THE TIED CARD OF 'veilkeep.Chunked'. -/
def chunkedCard : Claim7 := { stood := { row := chunkedRow, standIns := [], harness := (true, "aedf35abe37a438604033a702adad3e39fb87efb3311343a383fcd88b52a4f83"), looks := true }, kinds := [], alts := [], goes := true, laidByText := true, laidKinds := [.data, .data, .data, .data, .handle, .sentinel, .sentinel, .pinned], laidTests := true, laidLooks := .later }
def ChunkedCardSaid : Prop := Claim7.holds Tryz.pinned (.plain (OpenSpec.ofChange chunkedSpec)) chunkedCard

/-- THE TIED CARD OF 'veilkeep.Summed'. -/
def summedCard : Claim7 := { stood := { row := summedRow, standIns := [], harness := (true, "aedf35abe37a438604033a702adad3e39fb87efb3311343a383fcd88b52a4f83"), looks := true }, kinds := [], alts := [], goes := true, laidByText := true, laidKinds := [.data, .data, .data, .data, .handle, .sentinel, .sentinel, .pinned], laidTests := true, laidLooks := .later }
def SummedCardSaid : Prop := Claim7.holds Tryz.pinned (.plain (OpenSpec.ofChange summedSpec)) summedCard

/-- THE TIED CARD OF 'veilkeep.Shared'. -/
def sharedCard : Claim7 := { stood := { row := sharedRow, standIns := [], harness := (true, "aedf35abe37a438604033a702adad3e39fb87efb3311343a383fcd88b52a4f83"), looks := true }, kinds := [], alts := [], goes := true, laidByText := true, laidKinds := [.data, .data, .data, .data, .handle, .sentinel, .sentinel, .pinned], laidTests := true, laidLooks := .later }
def SharedCardSaid : Prop := Claim7.holds Tryz.pinned (.plain (OpenSpec.ofChange sharedSpec)) sharedCard

/-- THE TIED CARD OF 'veilkeep.Hidden'. -/
def hiddenCard : Claim7 := { stood := { row := hiddenRow, standIns := [], harness := (true, "aedf35abe37a438604033a702adad3e39fb87efb3311343a383fcd88b52a4f83"), looks := true }, kinds := [], alts := [], goes := true, laidByText := true, laidKinds := [.data, .data, .data, .data, .handle, .sentinel, .sentinel, .pinned], laidTests := true, laidLooks := .later }
def HiddenCardSaid : Prop := Claim7.holds Tryz.pinned (.plain (OpenSpec.ofChange hiddenSpec)) hiddenCard

/-- THE TIED CARD OF 'veilkeep.Masked'. -/
def maskedCard : Claim7 := { stood := { row := maskedRow, standIns := [], harness := (true, "aedf35abe37a438604033a702adad3e39fb87efb3311343a383fcd88b52a4f83"), looks := true }, kinds := [], alts := [], goes := true, laidByText := true, laidKinds := [.data, .data, .data, .data, .handle, .sentinel, .sentinel, .pinned], laidTests := true, laidLooks := .later }
def MaskedCardSaid : Prop := Claim7.holds Tryz.pinned (.plain (OpenSpec.ofChange maskedSpec)) maskedCard

/-- THE TIED CARD OF 'veillaw.All'. -/
def allCard : Claim7 := { stood := { row := allRow, standIns := [], harness := (true, "aedf35abe37a438604033a702adad3e39fb87efb3311343a383fcd88b52a4f83"), looks := true }, kinds := [], alts := [], goes := true, laidByText := true, laidKinds := [.data, .data, .data, .data, .handle, .sentinel, .sentinel, .pinned], laidTests := true, laidLooks := .later }
def AllCardSaid : Prop := Claim7.holds Tryz.pinned (.plain (OpenSpec.ofChange allSpec)) allCard

/-- THE SECOND FORM's CARD OF 'veillaw.Checked'. -/
def checkedUptoCard : Claim7 := { stood := { row := checkedUptoRow, standIns := [], harness := (true, "aedf35abe37a438604033a702adad3e39fb87efb3311343a383fcd88b52a4f83"), looks := true }, kinds := [], alts := [], goes := true, laidByText := true, laidKinds := [.data, .data, .data, .data, .handle, .sentinel, .sentinel, .pinned], laidTests := true, laidLooks := .later }
def CheckedUptoCardSaid : Prop := Claim7.holds Tryz.pinned (.plain (OpenSpec.upto checkedSpec)) checkedUptoCard

/-- THE SECOND FORM's CARD OF 'veillaw.Ruled'. -/
def ruledUptoCard : Claim7 := { stood := { row := ruledUptoRow, standIns := [], harness := (true, "aedf35abe37a438604033a702adad3e39fb87efb3311343a383fcd88b52a4f83"), looks := true }, kinds := [], alts := [], goes := true, laidByText := true, laidKinds := [.data, .data, .data, .data, .handle, .sentinel, .sentinel, .pinned], laidTests := true, laidLooks := .later }
def RuledUptoCardSaid : Prop := Claim7.holds Tryz.pinned (.plain (OpenSpec.upto ruledSpec)) ruledUptoCard

/-- THE SECOND FORM's CARD OF 'veillaw.Served'. -/
def servedUptoCard : Claim7 := { stood := { row := servedUptoRow, standIns := [], harness := (true, "aedf35abe37a438604033a702adad3e39fb87efb3311343a383fcd88b52a4f83"), looks := true }, kinds := [], alts := [], goes := true, laidByText := true, laidKinds := [.data, .data, .data, .data, .handle, .sentinel, .sentinel, .pinned], laidTests := true, laidLooks := .later }
def ServedUptoCardSaid : Prop := Claim7.holds Tryz.pinned (.plain (OpenSpec.upto servedSpec)) servedUptoCard

/-- THE SECOND FORM's CARD OF 'veillaw.Servers'. -/
def serversUptoCard : Claim7 := { stood := { row := serversUptoRow, standIns := [], harness := (true, "aedf35abe37a438604033a702adad3e39fb87efb3311343a383fcd88b52a4f83"), looks := true }, kinds := [], alts := [], goes := true, laidByText := true, laidKinds := [.data, .data, .data, .data, .handle, .sentinel, .sentinel, .pinned], laidTests := true, laidLooks := .later }
def ServersUptoCardSaid : Prop := Claim7.holds Tryz.pinned (.plain (OpenSpec.upto serversSpec)) serversUptoCard

/-- THE SECOND FORM's CARD OF 'veilkeep.Chunked'. -/
def chunkedUptoCard : Claim7 := { stood := { row := chunkedUptoRow, standIns := [], harness := (true, "aedf35abe37a438604033a702adad3e39fb87efb3311343a383fcd88b52a4f83"), looks := true }, kinds := [], alts := [], goes := true, laidByText := true, laidKinds := [.data, .data, .data, .data, .handle, .sentinel, .sentinel, .pinned], laidTests := true, laidLooks := .later }
def ChunkedUptoCardSaid : Prop := Claim7.holds Tryz.pinned (.plain (OpenSpec.upto chunkedSpec)) chunkedUptoCard

/-- THE SECOND FORM's CARD OF 'veilkeep.Summed'. -/
def summedUptoCard : Claim7 := { stood := { row := summedUptoRow, standIns := [], harness := (true, "aedf35abe37a438604033a702adad3e39fb87efb3311343a383fcd88b52a4f83"), looks := true }, kinds := [], alts := [], goes := true, laidByText := true, laidKinds := [.data, .data, .data, .data, .handle, .sentinel, .sentinel, .pinned], laidTests := true, laidLooks := .later }
def SummedUptoCardSaid : Prop := Claim7.holds Tryz.pinned (.plain (OpenSpec.upto summedSpec)) summedUptoCard

/-- THE SECOND FORM's CARD OF 'veilkeep.Shared'. -/
def sharedUptoCard : Claim7 := { stood := { row := sharedUptoRow, standIns := [], harness := (true, "aedf35abe37a438604033a702adad3e39fb87efb3311343a383fcd88b52a4f83"), looks := true }, kinds := [], alts := [], goes := true, laidByText := true, laidKinds := [.data, .data, .data, .data, .handle, .sentinel, .sentinel, .pinned], laidTests := true, laidLooks := .later }
def SharedUptoCardSaid : Prop := Claim7.holds Tryz.pinned (.plain (OpenSpec.upto sharedSpec)) sharedUptoCard

/-- THE SECOND FORM's CARD OF 'veilkeep.Hidden'. -/
def hiddenUptoCard : Claim7 := { stood := { row := hiddenUptoRow, standIns := [], harness := (true, "aedf35abe37a438604033a702adad3e39fb87efb3311343a383fcd88b52a4f83"), looks := true }, kinds := [], alts := [], goes := true, laidByText := true, laidKinds := [.data, .data, .data, .data, .handle, .sentinel, .sentinel, .pinned], laidTests := true, laidLooks := .later }
def HiddenUptoCardSaid : Prop := Claim7.holds Tryz.pinned (.plain (OpenSpec.upto hiddenSpec)) hiddenUptoCard

/-- THE SECOND FORM's CARD OF 'veilkeep.Masked'. -/
def maskedUptoCard : Claim7 := { stood := { row := maskedUptoRow, standIns := [], harness := (true, "aedf35abe37a438604033a702adad3e39fb87efb3311343a383fcd88b52a4f83"), looks := true }, kinds := [], alts := [], goes := true, laidByText := true, laidKinds := [.data, .data, .data, .data, .handle, .sentinel, .sentinel, .pinned], laidTests := true, laidLooks := .later }
def MaskedUptoCardSaid : Prop := Claim7.holds Tryz.pinned (.plain (OpenSpec.upto maskedSpec)) maskedUptoCard

/-- THE SECOND FORM's CARD OF 'veillaw.All'. -/
def allUptoCard : Claim7 := { stood := { row := allUptoRow, standIns := [], harness := (true, "aedf35abe37a438604033a702adad3e39fb87efb3311343a383fcd88b52a4f83"), looks := true }, kinds := [], alts := [], goes := true, laidByText := true, laidKinds := [.data, .data, .data, .data, .handle, .sentinel, .sentinel, .pinned], laidTests := true, laidLooks := .later }
def AllUptoCardSaid : Prop := Claim7.holds Tryz.pinned (.plain (OpenSpec.upto allSpec)) allUptoCard
end Rows
end Go.Proofs.YtnpjldffciociaaGreatDoor
