/- Closed facts of ProjectSorts' row. -/
import Derived.Test.YthjflofcgdfekaaGreatDoorTie
import Derived.Test.YthjflofcgdfekaaGreatDoorCards
import Derived.ProofKit
import Derived.ChangeMaps5
import Derived.SizedLaws
import Derived.SevenTiedAt
namespace Go.Proofs.YthjflofcgdfekaaGreatDoor.projectSorts
open Go.ChangeShapes Go.WideShapes Go.ChangeAt Go.RowKit
set_option maxHeartbeats 40000000 in
set_option maxRecDepth 100000 in
theorem byText : OpenClaim.wfByText (OpenSpec.ofChange Rows.projectSortsSpec) Rows.projectSortsRow = true := by as_aux_lemma => kernel_rfl
set_option maxHeartbeats 40000000 in
set_option maxRecDepth 100000 in
theorem mainIs : Tryz.pinned.checked.prog.mainIs = some (true, ("d1992fd544d47b2900b329572e4e930ea2456d884f16f5b13a2608c550b9f6f2" : String).toList) := rfl
set_option maxHeartbeats 40000000 in
set_option maxRecDepth 100000 in
theorem looks : true = Tryz.pinned.checked.prog.looks [] := by as_aux_lemma => kernel_rfl
set_option maxHeartbeats 40000000 in
set_option maxRecDepth 100000 in
theorem goesBy : false = Rows.projectSortsRow.goesBy Tryz.pinned.checked.prog := by as_aux_lemma => kernel_rfl
end Go.Proofs.YthjflofcgdfekaaGreatDoor.projectSorts
