/-
  DERIVED. GIVEN WITH THE SEED: THE CARDS: each row of YthjflofcgdfekaaGreatDoorRows.lean that lists a variable, with what it lists TIED to the program's text (the seventh form; the later family's looks); each row that meets fmt, with fmt's text TOLD by the authors' own Lean function (tested against real Go, not proved from fmt's source: count such statements apart). THE CARD IS WHAT COUNTS. Prove the row's statement (the work); the ties are given (YthjflofcgdfekaaGreatDoorTie.lean); close each card by the builder's one call (the guide's Derived/Test/ToyasCard.lean, 'card_holds'). Laid BY PROGRAM, IN A SANDBOX (cutbox-door.mjs). By AI agents, Wed Nov 11 2026. No macro, syntax, notation, axiom, sorry.
-/
import Derived.Test.YthjflofcgdfekaaGreatDoorRows
import GoSem.ClaimSeven
namespace Go.Proofs.YthjflofcgdfekaaGreatDoor
namespace Rows

/-- THE TIED CARD OF 'whetstonelaw13.ProjectLoads'. -/
def projectLoadsCard : Claim7 := { stood := { row := projectLoadsRow, standIns := [], harness := (true, "d1992fd544d47b2900b329572e4e930ea2456d884f16f5b13a2608c550b9f6f2"), looks := true }, kinds := [], alts := [], laidByText := true, laidKinds := [.data, .data, .data, .data, .sentinel, .sentinel, .pinned], laidTests := true, laidLooks := .later }
def ProjectLoadsCardSaid : Prop := Claim7.holds Tryz.pinned (.plain (OpenSpec.ofChange projectLoadsSpec)) projectLoadsCard

/-- THE TIED CARD OF 'whetstonelaw13.ProjectImports'. -/
def projectImportsCard : Claim7 := { stood := { row := projectImportsRow, standIns := [], harness := (true, "d1992fd544d47b2900b329572e4e930ea2456d884f16f5b13a2608c550b9f6f2"), looks := true }, kinds := [], alts := [], laidByText := true, laidKinds := [.data, .data, .data, .data, .sentinel, .sentinel, .pinned], laidTests := true, laidLooks := .later }
def ProjectImportsCardSaid : Prop := Claim7.holds Tryz.pinned (.plain (OpenSpec.ofChange projectImportsSpec)) projectImportsCard

/-- THE TIED CARD OF 'whetstonelaw13.ProjectTurns'. -/
def projectTurnsCard : Claim7 := { stood := { row := projectTurnsRow, standIns := [], harness := (true, "d1992fd544d47b2900b329572e4e930ea2456d884f16f5b13a2608c550b9f6f2"), looks := true }, kinds := [], alts := [], laidByText := true, laidKinds := [.data, .data, .data, .data, .sentinel, .sentinel, .pinned], laidTests := true, laidLooks := .later }
def ProjectTurnsCardSaid : Prop := Claim7.holds Tryz.pinned (.plain (OpenSpec.ofChange projectTurnsSpec)) projectTurnsCard

/-- THE TIED CARD OF 'whetstonelaw13.ProjectSorts'. -/
def projectSortsCard : Claim7 := { stood := { row := projectSortsRow, standIns := [], harness := (true, "d1992fd544d47b2900b329572e4e930ea2456d884f16f5b13a2608c550b9f6f2"), looks := true }, kinds := [], alts := [], laidByText := true, laidKinds := [.data, .data, .data, .data, .sentinel, .sentinel, .pinned], laidTests := true, laidLooks := .later }
def ProjectSortsCardSaid : Prop := Claim7.holds Tryz.pinned (.plain (OpenSpec.ofChange projectSortsSpec)) projectSortsCard

/-- THE TIED CARD OF 'whetstonelaw13.ProjectGrows'. -/
def projectGrowsCard : Claim7 := { stood := { row := projectGrowsRow, standIns := [], harness := (true, "d1992fd544d47b2900b329572e4e930ea2456d884f16f5b13a2608c550b9f6f2"), looks := true }, kinds := [], alts := [], laidByText := true, laidKinds := [.data, .data, .data, .data, .sentinel, .sentinel, .pinned], laidTests := true, laidLooks := .later }
def ProjectGrowsCardSaid : Prop := Claim7.holds Tryz.pinned (.plain (OpenSpec.ofChange projectGrowsSpec)) projectGrowsCard

/-- THE TIED CARD OF 'whetstonelaw13.ProjectReads'. -/
def projectReadsCard : Claim7 := { stood := { row := projectReadsRow, standIns := [], harness := (true, "d1992fd544d47b2900b329572e4e930ea2456d884f16f5b13a2608c550b9f6f2"), looks := true }, kinds := [], alts := [], laidByText := true, laidKinds := [.data, .data, .data, .data, .sentinel, .sentinel, .pinned], laidTests := true, laidLooks := .later }
def ProjectReadsCardSaid : Prop := Claim7.holds Tryz.pinned (.plain (OpenSpec.ofChange projectReadsSpec)) projectReadsCard

/-- THE TIED CARD OF 'whetstonelaw14.IndexFinds'. -/
def indexFindsCard : Claim7 := { stood := { row := indexFindsRow, standIns := [], harness := (true, "d1992fd544d47b2900b329572e4e930ea2456d884f16f5b13a2608c550b9f6f2"), looks := true }, kinds := [], alts := [], laidByText := true, laidKinds := [.data, .data, .data, .data, .sentinel, .sentinel, .pinned], laidTests := true, laidLooks := .later }
def IndexFindsCardSaid : Prop := Claim7.holds Tryz.pinned (.plain (OpenSpec.ofChange indexFindsSpec)) indexFindsCard

/-- THE TIED CARD OF 'whetstonelaw14.IndexWords'. -/
def indexWordsCard : Claim7 := { stood := { row := indexWordsRow, standIns := [], harness := (true, "d1992fd544d47b2900b329572e4e930ea2456d884f16f5b13a2608c550b9f6f2"), looks := true }, kinds := [], alts := [], laidByText := true, laidKinds := [.data, .data, .data, .data, .sentinel, .sentinel, .pinned], laidTests := true, laidLooks := .later }
def IndexWordsCardSaid : Prop := Claim7.holds Tryz.pinned (.plain (OpenSpec.ofChange indexWordsSpec)) indexWordsCard

/-- THE TIED CARD OF 'whetstonelaw14.IndexApart'. -/
def indexApartCard : Claim7 := { stood := { row := indexApartRow, standIns := [], harness := (true, "d1992fd544d47b2900b329572e4e930ea2456d884f16f5b13a2608c550b9f6f2"), looks := true }, kinds := [], alts := [], laidByText := true, laidKinds := [.data, .data, .data, .data, .sentinel, .sentinel, .pinned], laidTests := true, laidLooks := .later }
def IndexApartCardSaid : Prop := Claim7.holds Tryz.pinned (.plain (OpenSpec.ofChange indexApartSpec)) indexApartCard

/-- THE TIED CARD OF 'whetstonelaw14.IndexSums'. -/
def indexSumsCard : Claim7 := { stood := { row := indexSumsRow, standIns := [], harness := (true, "d1992fd544d47b2900b329572e4e930ea2456d884f16f5b13a2608c550b9f6f2"), looks := true }, kinds := [], alts := [], laidByText := true, laidKinds := [.data, .data, .data, .data, .sentinel, .sentinel, .pinned], laidTests := true, laidLooks := .later }
def IndexSumsCardSaid : Prop := Claim7.holds Tryz.pinned (.plain (OpenSpec.ofChange indexSumsSpec)) indexSumsCard

/-- THE SECOND FORM's CARD OF 'whetstonelaw13.ProjectLoads'. -/
def projectLoadsUptoCard : Claim7 := { stood := { row := projectLoadsUptoRow, standIns := [], harness := (true, "d1992fd544d47b2900b329572e4e930ea2456d884f16f5b13a2608c550b9f6f2"), looks := true }, kinds := [], alts := [], laidByText := true, laidKinds := [.data, .data, .data, .data, .sentinel, .sentinel, .pinned], laidTests := true, laidLooks := .later }
def ProjectLoadsUptoCardSaid : Prop := Claim7.holds Tryz.pinned (.plain (OpenSpec.upto projectLoadsSpec)) projectLoadsUptoCard

/-- THE SECOND FORM's CARD OF 'whetstonelaw13.ProjectImports'. -/
def projectImportsUptoCard : Claim7 := { stood := { row := projectImportsUptoRow, standIns := [], harness := (true, "d1992fd544d47b2900b329572e4e930ea2456d884f16f5b13a2608c550b9f6f2"), looks := true }, kinds := [], alts := [], laidByText := true, laidKinds := [.data, .data, .data, .data, .sentinel, .sentinel, .pinned], laidTests := true, laidLooks := .later }
def ProjectImportsUptoCardSaid : Prop := Claim7.holds Tryz.pinned (.plain (OpenSpec.upto projectImportsSpec)) projectImportsUptoCard

/-- THE SECOND FORM's CARD OF 'whetstonelaw13.ProjectTurns'. -/
def projectTurnsUptoCard : Claim7 := { stood := { row := projectTurnsUptoRow, standIns := [], harness := (true, "d1992fd544d47b2900b329572e4e930ea2456d884f16f5b13a2608c550b9f6f2"), looks := true }, kinds := [], alts := [], laidByText := true, laidKinds := [.data, .data, .data, .data, .sentinel, .sentinel, .pinned], laidTests := true, laidLooks := .later }
def ProjectTurnsUptoCardSaid : Prop := Claim7.holds Tryz.pinned (.plain (OpenSpec.upto projectTurnsSpec)) projectTurnsUptoCard

/-- THE SECOND FORM's CARD OF 'whetstonelaw13.ProjectSorts'. -/
def projectSortsUptoCard : Claim7 := { stood := { row := projectSortsUptoRow, standIns := [], harness := (true, "d1992fd544d47b2900b329572e4e930ea2456d884f16f5b13a2608c550b9f6f2"), looks := true }, kinds := [], alts := [], laidByText := true, laidKinds := [.data, .data, .data, .data, .sentinel, .sentinel, .pinned], laidTests := true, laidLooks := .later }
def ProjectSortsUptoCardSaid : Prop := Claim7.holds Tryz.pinned (.plain (OpenSpec.upto projectSortsSpec)) projectSortsUptoCard

/-- THE SECOND FORM's CARD OF 'whetstonelaw13.ProjectGrows'. -/
def projectGrowsUptoCard : Claim7 := { stood := { row := projectGrowsUptoRow, standIns := [], harness := (true, "d1992fd544d47b2900b329572e4e930ea2456d884f16f5b13a2608c550b9f6f2"), looks := true }, kinds := [], alts := [], laidByText := true, laidKinds := [.data, .data, .data, .data, .sentinel, .sentinel, .pinned], laidTests := true, laidLooks := .later }
def ProjectGrowsUptoCardSaid : Prop := Claim7.holds Tryz.pinned (.plain (OpenSpec.upto projectGrowsSpec)) projectGrowsUptoCard

/-- THE SECOND FORM's CARD OF 'whetstonelaw13.ProjectReads'. -/
def projectReadsUptoCard : Claim7 := { stood := { row := projectReadsUptoRow, standIns := [], harness := (true, "d1992fd544d47b2900b329572e4e930ea2456d884f16f5b13a2608c550b9f6f2"), looks := true }, kinds := [], alts := [], laidByText := true, laidKinds := [.data, .data, .data, .data, .sentinel, .sentinel, .pinned], laidTests := true, laidLooks := .later }
def ProjectReadsUptoCardSaid : Prop := Claim7.holds Tryz.pinned (.plain (OpenSpec.upto projectReadsSpec)) projectReadsUptoCard

/-- THE SECOND FORM's CARD OF 'whetstonelaw14.IndexFinds'. -/
def indexFindsUptoCard : Claim7 := { stood := { row := indexFindsUptoRow, standIns := [], harness := (true, "d1992fd544d47b2900b329572e4e930ea2456d884f16f5b13a2608c550b9f6f2"), looks := true }, kinds := [], alts := [], laidByText := true, laidKinds := [.data, .data, .data, .data, .sentinel, .sentinel, .pinned], laidTests := true, laidLooks := .later }
def IndexFindsUptoCardSaid : Prop := Claim7.holds Tryz.pinned (.plain (OpenSpec.upto indexFindsSpec)) indexFindsUptoCard

/-- THE SECOND FORM's CARD OF 'whetstonelaw14.IndexWords'. -/
def indexWordsUptoCard : Claim7 := { stood := { row := indexWordsUptoRow, standIns := [], harness := (true, "d1992fd544d47b2900b329572e4e930ea2456d884f16f5b13a2608c550b9f6f2"), looks := true }, kinds := [], alts := [], laidByText := true, laidKinds := [.data, .data, .data, .data, .sentinel, .sentinel, .pinned], laidTests := true, laidLooks := .later }
def IndexWordsUptoCardSaid : Prop := Claim7.holds Tryz.pinned (.plain (OpenSpec.upto indexWordsSpec)) indexWordsUptoCard

/-- THE SECOND FORM's CARD OF 'whetstonelaw14.IndexApart'. -/
def indexApartUptoCard : Claim7 := { stood := { row := indexApartUptoRow, standIns := [], harness := (true, "d1992fd544d47b2900b329572e4e930ea2456d884f16f5b13a2608c550b9f6f2"), looks := true }, kinds := [], alts := [], laidByText := true, laidKinds := [.data, .data, .data, .data, .sentinel, .sentinel, .pinned], laidTests := true, laidLooks := .later }
def IndexApartUptoCardSaid : Prop := Claim7.holds Tryz.pinned (.plain (OpenSpec.upto indexApartSpec)) indexApartUptoCard

/-- THE SECOND FORM's CARD OF 'whetstonelaw14.IndexSums'. -/
def indexSumsUptoCard : Claim7 := { stood := { row := indexSumsUptoRow, standIns := [], harness := (true, "d1992fd544d47b2900b329572e4e930ea2456d884f16f5b13a2608c550b9f6f2"), looks := true }, kinds := [], alts := [], laidByText := true, laidKinds := [.data, .data, .data, .data, .sentinel, .sentinel, .pinned], laidTests := true, laidLooks := .later }
def IndexSumsUptoCardSaid : Prop := Claim7.holds Tryz.pinned (.plain (OpenSpec.upto indexSumsSpec)) indexSumsUptoCard
end Rows
end Go.Proofs.YthjflofcgdfekaaGreatDoor
