/- The document's example of package token holds; names and keys. -/
import Derived.Test.YthbmnnnlkgbieaaGreatDoorTF
namespace Go.Proofs.YthbmnnnlkgbieaaGreatDoor
open Go.RowKit

theorem Tabs.step {w w' : World} (h : Tabs w) (hb : Below w.heap.size w w') : Tabs w' := Utf8Tabs_below h hb

end Go.Proofs.YthbmnnnlkgbieaaGreatDoor
