import Derived.Test.YtiabkkdeonepgaaGreatDoorAG
namespace Go.Proofs.YtiabkkdeonepgaaGreatDoor
open Go.RowKit
def kt (t : Tok) : Nat × ByteArray := (t.kind, t.text)
section
variable {s t u : ByteArray} (hu : u.data.toList = s.data.toList ++ 10 :: t.data.toList)
include hu
end
end Go.Proofs.YtiabkkdeonepgaaGreatDoor
