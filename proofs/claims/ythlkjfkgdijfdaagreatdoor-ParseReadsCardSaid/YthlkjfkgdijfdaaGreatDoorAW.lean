/- The document's example of package runes holds. -/
import Derived.Test.YthlkjfkgdijfdaaGreatDoorMR1
import Derived.Test.YthlkjfkgdijfdaaGreatDoorXB
namespace Go.Proofs.YthlkjfkgdijfdaaGreatDoor
open Go.RowKit

theorem badI_a : badI [97] = -1 := by
  refine badI_none ?_
  rw [bad_step (by simp) (by decide)]
  rw [show List.drop (dec [97]).2 ([97] : List UInt8) = [] by decide, bad_nil]
  rfl
theorem step_below {w w1 w2 : World} (h : Below w.heap.size w w1) (h' : Below w1.heap.size w1 w2) : Below w.heap.size w w2 := h.trans (h'.mono h.size)
end Go.Proofs.YthlkjfkgdijfdaaGreatDoor
