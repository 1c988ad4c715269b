import Derived.Test.YtiabkkdeonepgaaGreatDoorHO
namespace Go.Proofs.YtiabkkdeonepgaaGreatDoor
namespace Ps
open Pg
variable {l : List Tok}
variable {l' : List Tok} {d N : Nat}
theorem use_of {l : List Tok} {b : Int} {i : Nat} (hb : b < 0) (k1 : kindAt l (i + 1) = 1) (m2 : isM l (i + 2) sDot = true) (k3 : kindAt l (i + 3) = 1) (m4 : isM l (i + 4) sSem = true) : useM l b i = (.one ⟨2, i, i + 5, textAt l (i + 3), i + 3⟩ (.one ⟨23, i + 1, i + 2, textAt l (i + 1), i + 1⟩ .nil), i + 5, b) := by
  have hb' : ¬ (0 : Int) ≤ b := by omega
  have e1 : ∀ hd : Hd, wordM l b hd (i + 1) = ({ hd with word := textAt l (i + 1), at_ := i + 1 }, i + 2, b) := fun hd => by
    unfold wordM; rw [if_neg hb', if_pos k1]
  have e2 : wantM l b (i + 2) sDot = (i + 3, b) := by unfold wantM; rw [if_neg hb', if_pos m2]
  have e3 : ∀ hd : Hd, wordM l b hd (i + 3) = ({ hd with word := textAt l (i + 3), at_ := i + 3 }, i + 4, b) := fun hd => by
    unfold wordM; rw [if_neg hb', if_pos k3]
  have e4 : wantM l b (i + 4) sSem = (i + 5, b) := by unfold wantM; rw [if_neg hb', if_pos m4]
  unfold useM
  simp only [e1, e2, e3, e4]
theorem use_good {l : List Tok} {b : Int} {i : Nat} (hr : (useM l b i).2.2 < 0) : b < 0 ∧ kindAt l (i + 1) = 1 ∧ isM l (i + 2) sDot = true ∧ kindAt l (i + 3) = 1 ∧ isM l (i + 4) sSem = true := by
  unfold useM at hr
  dsimp only at hr
  obtain ⟨h4, m4, e4⟩ := wantM_good hr
  obtain ⟨h3, m3, e3⟩ := wordM_good h4
  obtain ⟨h2, m2, e2⟩ := wantM_good h3
  obtain ⟨h1, m1, e1⟩ := wordM_good h2
  simp only [e1] at e2 e3 e4 m2 m3 m4
  simp only [e2] at e3 e4 m3 m4
  simp only [e3] at e4 m4
  exact ⟨h1, m1, m2, m3, m4⟩
end Ps
end Go.Proofs.YtiabkkdeonepgaaGreatDoor
