import Derived.Test.YtiabkkdeonepgaaGreatDoorHN
namespace Go.Proofs.YtiabkkdeonepgaaGreatDoor
namespace Ps
open Pg
variable {l l' : List Tok} {d N : Nat}
theorem Alike.of {r : Fo × Nat × Int} {o : Res} {k' : Fo} {j : Nat} {b : Int} (h : o = some (k', j, b)) (hj : j = r.2.1 + d) (hb : b = r.2.2) (hk : Eqv false r.1 k') : Alike d r o := ⟨k', by rw [h, hj, hb], hk⟩
end Ps
end Go.Proofs.YtiabkkdeonepgaaGreatDoor
