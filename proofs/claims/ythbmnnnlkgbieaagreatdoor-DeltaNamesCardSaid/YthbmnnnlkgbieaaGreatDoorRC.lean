/- Contracts: the column of a place. -/
import Derived.Test.YthbmnnnlkgbieaaGreatDoorRB
namespace Go.Proofs.YthbmnnnlkgbieaaGreatDoor
open Go.RowKit

/-- Where the line of a place begins. -/
def lst (s : ByteArray) : Nat → Nat
  | 0 => 0
  | k + 1 => if gb s k = 10 then k + 1 else lst s k
theorem lst_le (s : ByteArray) : ∀ k, lst s k ≤ k
  | 0 => Nat.le_refl _
  | k + 1 => by
    have := lst_le s k
    unfold lst
    split <;> omega
theorem lst_hit {s : ByteArray} {k : Nat} (h : gb s k = 10) : lst s (k + 1) = k + 1 := by simp [lst, h]
theorem lst_miss {s : ByteArray} {k : Nat} (h : gb s k ≠ 10) : lst s (k + 1) = lst s k := by simp [lst, h]

end Go.Proofs.YthbmnnnlkgbieaaGreatDoor
