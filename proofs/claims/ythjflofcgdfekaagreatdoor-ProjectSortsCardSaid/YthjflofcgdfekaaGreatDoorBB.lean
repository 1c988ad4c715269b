/- Closed facts of ProjectSorts' row. -/
import Derived.Test.YthjflofcgdfekaaGreatDoorTie
import Derived.Test.YthjflofcgdfekaaGreatDoorCards
import Derived.ProofKit
import Derived.ChangeMaps5
import Derived.SizedLaws
import Derived.SevenTiedAt
namespace Go.Proofs.YthjflofcgdfekaaGreatDoor.projectSorts
open Go.ChangeShapes Go.WideShapes Go.ChangeAt Go.RowKit
set_option maxHeartbeats 40000000 in
set_option maxRecDepth 100000 in
theorem facts : joinedFacts Tryz.checked.prog 6 Tryz.f6 Rows.projectSortsSpec Rows.projectSortsRow = true := by
  unfold joinedFacts
  repeat' with_reducible refine Bool.and_eq_true_iff.2 ⟨?_, ?_⟩
  all_goals as_aux_lemma => kernel_rfl
end Go.Proofs.YthjflofcgdfekaaGreatDoor.projectSorts
