import Derived.Test.YtiabkkdeonepgaaGreatDoorMR1
import Derived.Test.YtiabkkdeonepgaaGreatDoorXB
namespace Go.Proofs.YtiabkkdeonepgaaGreatDoor
open Go.RowKit
theorem step_below {w w1 w2 : World} (h : Below w.heap.size w w1) (h' : Below w1.heap.size w1 w2) : Below w.heap.size w w2 := h.trans (h'.mono h.size)
end Go.Proofs.YtiabkkdeonepgaaGreatDoor
