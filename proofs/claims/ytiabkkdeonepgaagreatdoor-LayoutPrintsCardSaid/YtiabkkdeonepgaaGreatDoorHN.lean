import Derived.Test.YtiabkkdeonepgaaGreatDoorHL
import Derived.Test.YtiabkkdeonepgaaGreatDoorHK
namespace Go.Proofs.YtiabkkdeonepgaaGreatDoor
namespace Ps
open Pg
variable {l : List Tok}
theorem Eqv.app {pl : Bool} : ∀ {a a' b b' : Fo}, Eqv pl a a' → Eqv pl b b' → Eqv pl (a.app b) (a'.app b')
  | .nil, .nil, _, _, _, hb => hb
  | .cons _ _ _, .cons _ _ _, _, _, ha, hb => ⟨ha.1, ha.2.1, Eqv.app ha.2.2 hb⟩
  | .nil, .cons _ _ _, _, _, ha, _ => ha.elim
  | .cons _ _ _, .nil, _, _, ha, _ => ha.elim
theorem Eqv.one {h h' : Hd} {k k' : Fo} (e1 : h.kind = h'.kind) (e2 : h.word = h'.word) (hk : Eqv false k k') : Eqv false (.one h k) (.one h' k') := ⟨⟨e1, e2, fun h => by cases h⟩, hk, trivial⟩
theorem Eqv.deep {pl : Bool} : ∀ {a a' : Fo}, Eqv pl a a' → a.deep = a'.deep
  | .nil, .nil, _ => rfl
  | .cons _ _ _, .cons _ _ _, ha => by rw [Fo.deep, Fo.deep, Eqv.deep ha.2.1, Eqv.deep ha.2.2]
  | .nil, .cons _ _ _, ha => ha.elim
  | .cons _ _ _, .nil, ha => ha.elim
structure Sim (l l' : List Tok) (d N : Nat) : Prop where
  m : ∀ j, j < N → ∀ x, isM l' (j + d) x = isM l j x
  k : ∀ j, j < N → kindAt l' (j + d) = kindAt l j
  t : ∀ j, j < N → textAt l' (j + d) = textAt l j
variable {l' : List Tok} {d N : Nat}
def Alike (d : Nat) (r : Fo × Nat × Int) (o : Res) : Prop := ∃ k', o = some (k', r.2.1 + d, r.2.2) ∧ Eqv false r.1 k'
end Ps
end Go.Proofs.YtiabkkdeonepgaaGreatDoor
