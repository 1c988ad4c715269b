/-
  DERIVED. GIVEN WITH THE SEED: THE CARDS: each row of YtifkjngclkklfaaGreatDoorRows.lean that lists a variable, with what it lists TIED to the program's text (the seventh form; the later family's looks); each row that meets fmt, with fmt's text TOLD by the authors' own Lean function (tested against real Go, not proved from fmt's source: count such statements apart). THE CARD IS WHAT COUNTS. Prove the row's statement (the work); the ties are given (YtifkjngclkklfaaGreatDoorTie.lean); close each card by the builder's one call (the guide's Derived/Test/ToyasCard.lean, 'card_holds'). Laid BY PROGRAM, IN A SANDBOX (cutbox-door.mjs). By AI agents, Wed Nov 11 2026. No macro, syntax, notation, axiom, sorry.
-/
import Derived.Test.YtifkjngclkklfaaGreatDoorRows
import GoSem.ClaimSeven
namespace Go.Proofs.YtifkjngclkklfaaGreatDoor
namespace Rows

/-- THE TIED CARD OF 'whetstonelaw09.TermAsks'. -/
def termAsksCard : Claim7 := { stood := { row := termAsksRow, standIns := [], harness := (true, "4be49b51750d8e54300cf0df8a6880d2ae7e384e86cb6aa601ffc69b069f2349"), looks := true }, kinds := [], alts := [], laidByText := true, laidKinds := [.data, .data, .data, .data, .sentinel, .sentinel, .pinned], laidTests := true, laidLooks := .later }
def TermAsksCardSaid : Prop := Claim7.holds Tryz.pinned (.plain (OpenSpec.ofChange termAsksSpec)) termAsksCard

/-- THE TIED CARD OF 'whetstonelaw09.TermMakes'. -/
def termMakesCard : Claim7 := { stood := { row := termMakesRow, standIns := [], harness := (true, "4be49b51750d8e54300cf0df8a6880d2ae7e384e86cb6aa601ffc69b069f2349"), looks := true }, kinds := [], alts := [], laidByText := true, laidKinds := [.data, .data, .data, .data, .sentinel, .sentinel, .pinned], laidTests := true, laidLooks := .later }
def TermMakesCardSaid : Prop := Claim7.holds Tryz.pinned (.plain (OpenSpec.ofChange termMakesSpec)) termMakesCard

/-- THE TIED CARD OF 'whetstonelaw09.TermBack'. -/
def termBackCard : Claim7 := { stood := { row := termBackRow, standIns := [], harness := (true, "4be49b51750d8e54300cf0df8a6880d2ae7e384e86cb6aa601ffc69b069f2349"), looks := true }, kinds := [], alts := [], laidByText := true, laidKinds := [.data, .data, .data, .data, .sentinel, .sentinel, .pinned], laidTests := true, laidLooks := .later }
def TermBackCardSaid : Prop := Claim7.holds Tryz.pinned (.plain (OpenSpec.ofChange termBackSpec)) termBackCard

/-- THE TIED CARD OF 'whetstonelaw09.TermParts'. -/
def termPartsCard : Claim7 := { stood := { row := termPartsRow, standIns := [], harness := (true, "4be49b51750d8e54300cf0df8a6880d2ae7e384e86cb6aa601ffc69b069f2349"), looks := true }, kinds := [], alts := [], laidByText := true, laidKinds := [.data, .data, .data, .data, .sentinel, .sentinel, .pinned], laidTests := true, laidLooks := .later }
def TermPartsCardSaid : Prop := Claim7.holds Tryz.pinned (.plain (OpenSpec.ofChange termPartsSpec)) termPartsCard

/-- THE TIED CARD OF 'whetstonelaw10.RelateFlows'. -/
def relateFlowsCard : Claim7 := { stood := { row := relateFlowsRow, standIns := [], harness := (true, "4be49b51750d8e54300cf0df8a6880d2ae7e384e86cb6aa601ffc69b069f2349"), looks := true }, kinds := [], alts := [], laidByText := true, laidKinds := [.data, .data, .data, .data, .sentinel, .sentinel, .pinned], laidTests := true, laidLooks := .later }
def RelateFlowsCardSaid : Prop := Claim7.holds Tryz.pinned (.plain (OpenSpec.ofChange relateFlowsSpec)) relateFlowsCard

/-- THE TIED CARD OF 'whetstonelaw10.RelateJoins'. -/
def relateJoinsCard : Claim7 := { stood := { row := relateJoinsRow, standIns := [], harness := (true, "4be49b51750d8e54300cf0df8a6880d2ae7e384e86cb6aa601ffc69b069f2349"), looks := true }, kinds := [], alts := [], laidByText := true, laidKinds := [.data, .data, .data, .data, .sentinel, .sentinel, .pinned], laidTests := true, laidLooks := .later }
def RelateJoinsCardSaid : Prop := Claim7.holds Tryz.pinned (.plain (OpenSpec.ofChange relateJoinsSpec)) relateJoinsCard

/-- THE TIED CARD OF 'whetstonelaw10.RelateOrder'. -/
def relateOrderCard : Claim7 := { stood := { row := relateOrderRow, standIns := [], harness := (true, "4be49b51750d8e54300cf0df8a6880d2ae7e384e86cb6aa601ffc69b069f2349"), looks := true }, kinds := [], alts := [], laidByText := true, laidKinds := [.data, .data, .data, .data, .sentinel, .sentinel, .pinned], laidTests := true, laidLooks := .later }
def RelateOrderCardSaid : Prop := Claim7.holds Tryz.pinned (.plain (OpenSpec.ofChange relateOrderSpec)) relateOrderCard

/-- THE TIED CARD OF 'whetstonelaw10.RelateTops'. -/
def relateTopsCard : Claim7 := { stood := { row := relateTopsRow, standIns := [], harness := (true, "4be49b51750d8e54300cf0df8a6880d2ae7e384e86cb6aa601ffc69b069f2349"), looks := true }, kinds := [], alts := [], laidByText := true, laidKinds := [.data, .data, .data, .data, .sentinel, .sentinel, .pinned], laidTests := true, laidLooks := .later }
def RelateTopsCardSaid : Prop := Claim7.holds Tryz.pinned (.plain (OpenSpec.ofChange relateTopsSpec)) relateTopsCard

/-- THE TIED CARD OF 'whetstonelaw10.RelateNeeds'. -/
def relateNeedsCard : Claim7 := { stood := { row := relateNeedsRow, standIns := [], harness := (true, "4be49b51750d8e54300cf0df8a6880d2ae7e384e86cb6aa601ffc69b069f2349"), looks := true }, kinds := [], alts := [], laidByText := true, laidKinds := [.data, .data, .data, .data, .sentinel, .sentinel, .pinned], laidTests := true, laidLooks := .later }
def RelateNeedsCardSaid : Prop := Claim7.holds Tryz.pinned (.plain (OpenSpec.ofChange relateNeedsSpec)) relateNeedsCard

/-- THE SECOND FORM's CARD OF 'whetstonelaw09.TermAsks'. -/
def termAsksUptoCard : Claim7 := { stood := { row := termAsksUptoRow, standIns := [], harness := (true, "4be49b51750d8e54300cf0df8a6880d2ae7e384e86cb6aa601ffc69b069f2349"), looks := true }, kinds := [], alts := [], laidByText := true, laidKinds := [.data, .data, .data, .data, .sentinel, .sentinel, .pinned], laidTests := true, laidLooks := .later }
def TermAsksUptoCardSaid : Prop := Claim7.holds Tryz.pinned (.plain (OpenSpec.upto termAsksSpec)) termAsksUptoCard

/-- THE SECOND FORM's CARD OF 'whetstonelaw09.TermMakes'. -/
def termMakesUptoCard : Claim7 := { stood := { row := termMakesUptoRow, standIns := [], harness := (true, "4be49b51750d8e54300cf0df8a6880d2ae7e384e86cb6aa601ffc69b069f2349"), looks := true }, kinds := [], alts := [], laidByText := true, laidKinds := [.data, .data, .data, .data, .sentinel, .sentinel, .pinned], laidTests := true, laidLooks := .later }
def TermMakesUptoCardSaid : Prop := Claim7.holds Tryz.pinned (.plain (OpenSpec.upto termMakesSpec)) termMakesUptoCard

/-- THE SECOND FORM's CARD OF 'whetstonelaw09.TermBack'. -/
def termBackUptoCard : Claim7 := { stood := { row := termBackUptoRow, standIns := [], harness := (true, "4be49b51750d8e54300cf0df8a6880d2ae7e384e86cb6aa601ffc69b069f2349"), looks := true }, kinds := [], alts := [], laidByText := true, laidKinds := [.data, .data, .data, .data, .sentinel, .sentinel, .pinned], laidTests := true, laidLooks := .later }
def TermBackUptoCardSaid : Prop := Claim7.holds Tryz.pinned (.plain (OpenSpec.upto termBackSpec)) termBackUptoCard

/-- THE SECOND FORM's CARD OF 'whetstonelaw09.TermParts'. -/
def termPartsUptoCard : Claim7 := { stood := { row := termPartsUptoRow, standIns := [], harness := (true, "4be49b51750d8e54300cf0df8a6880d2ae7e384e86cb6aa601ffc69b069f2349"), looks := true }, kinds := [], alts := [], laidByText := true, laidKinds := [.data, .data, .data, .data, .sentinel, .sentinel, .pinned], laidTests := true, laidLooks := .later }
def TermPartsUptoCardSaid : Prop := Claim7.holds Tryz.pinned (.plain (OpenSpec.upto termPartsSpec)) termPartsUptoCard

/-- THE SECOND FORM's CARD OF 'whetstonelaw10.RelateFlows'. -/
def relateFlowsUptoCard : Claim7 := { stood := { row := relateFlowsUptoRow, standIns := [], harness := (true, "4be49b51750d8e54300cf0df8a6880d2ae7e384e86cb6aa601ffc69b069f2349"), looks := true }, kinds := [], alts := [], laidByText := true, laidKinds := [.data, .data, .data, .data, .sentinel, .sentinel, .pinned], laidTests := true, laidLooks := .later }
def RelateFlowsUptoCardSaid : Prop := Claim7.holds Tryz.pinned (.plain (OpenSpec.upto relateFlowsSpec)) relateFlowsUptoCard

/-- THE SECOND FORM's CARD OF 'whetstonelaw10.RelateJoins'. -/
def relateJoinsUptoCard : Claim7 := { stood := { row := relateJoinsUptoRow, standIns := [], harness := (true, "4be49b51750d8e54300cf0df8a6880d2ae7e384e86cb6aa601ffc69b069f2349"), looks := true }, kinds := [], alts := [], laidByText := true, laidKinds := [.data, .data, .data, .data, .sentinel, .sentinel, .pinned], laidTests := true, laidLooks := .later }
def RelateJoinsUptoCardSaid : Prop := Claim7.holds Tryz.pinned (.plain (OpenSpec.upto relateJoinsSpec)) relateJoinsUptoCard

/-- THE SECOND FORM's CARD OF 'whetstonelaw10.RelateOrder'. -/
def relateOrderUptoCard : Claim7 := { stood := { row := relateOrderUptoRow, standIns := [], harness := (true, "4be49b51750d8e54300cf0df8a6880d2ae7e384e86cb6aa601ffc69b069f2349"), looks := true }, kinds := [], alts := [], laidByText := true, laidKinds := [.data, .data, .data, .data, .sentinel, .sentinel, .pinned], laidTests := true, laidLooks := .later }
def RelateOrderUptoCardSaid : Prop := Claim7.holds Tryz.pinned (.plain (OpenSpec.upto relateOrderSpec)) relateOrderUptoCard

/-- THE SECOND FORM's CARD OF 'whetstonelaw10.RelateTops'. -/
def relateTopsUptoCard : Claim7 := { stood := { row := relateTopsUptoRow, standIns := [], harness := (true, "4be49b51750d8e54300cf0df8a6880d2ae7e384e86cb6aa601ffc69b069f2349"), looks := true }, kinds := [], alts := [], laidByText := true, laidKinds := [.data, .data, .data, .data, .sentinel, .sentinel, .pinned], laidTests := true, laidLooks := .later }
def RelateTopsUptoCardSaid : Prop := Claim7.holds Tryz.pinned (.plain (OpenSpec.upto relateTopsSpec)) relateTopsUptoCard

/-- THE SECOND FORM's CARD OF 'whetstonelaw10.RelateNeeds'. -/
def relateNeedsUptoCard : Claim7 := { stood := { row := relateNeedsUptoRow, standIns := [], harness := (true, "4be49b51750d8e54300cf0df8a6880d2ae7e384e86cb6aa601ffc69b069f2349"), looks := true }, kinds := [], alts := [], laidByText := true, laidKinds := [.data, .data, .data, .data, .sentinel, .sentinel, .pinned], laidTests := true, laidLooks := .later }
def RelateNeedsUptoCardSaid : Prop := Claim7.holds Tryz.pinned (.plain (OpenSpec.upto relateNeedsSpec)) relateNeedsUptoCard
end Rows
end Go.Proofs.YtifkjngclkklfaaGreatDoor
