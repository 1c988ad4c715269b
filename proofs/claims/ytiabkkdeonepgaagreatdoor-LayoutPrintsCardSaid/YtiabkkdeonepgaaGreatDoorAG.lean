import Derived.Test.YtiabkkdeonepgaaGreatDoorAH
namespace Go.Proofs.YtiabkkdeonepgaaGreatDoor
open Go.RowKit
theorem um_run : ∀ (W : List UInt8) (c : Bool) (o : List UInt8) (r : List UInt8), um W c = some o → runM sls qGo c (W ++ 34 :: r) = W.length
  | [], true, o, r, h => by simp [um] at h
  | [], false, o, r, h => by
    rw [List.nil_append, runM_stop (show qGo false (34 : UInt8).toNat = false from rfl)]
    rfl
  | b :: t, true, o, r, h => by
    unfold um at h
    split at h
    · cases hu : um t false with
      | none => rw [hu] at h; cases h
      | some o' =>
        rw [List.cons_append, runM_go (show qGo true b.toNat = true by simp [qGo]), show sls true (b.toNat : Int) = false by simp [sls], um_run t false o' r hu, List.length_cons]
        omega
    · cases h
  | b :: t, false, o, r, h => by
    unfold um at h
    split at h
    · rename_i hb
      subst hb
      rw [List.cons_append, runM_go (show qGo false (92 : UInt8).toNat = true from rfl), show sls false ((92 : UInt8).toNat : Int) = true from rfl, um_run t true o r h, List.length_cons]
      omega
    · rename_i hb
      split at h
      · cases h
      · rename_i hb2
        cases hu : um t false with
        | none => rw [hu] at h; cases h
        | some o' =>
          have n34 : (b.toNat : Int) ≠ 34 := fun e => hb2 (.inr (UInt8.toNat_inj.1 (by simpa using (by omega : b.toNat = 34))))
          have n92 : (b.toNat : Int) ≠ 92 := fun e => hb (UInt8.toNat_inj.1 (by simpa using (by omega : b.toNat = 92)))
          rw [List.cons_append, runM_go (show qGo false b.toNat = true by simp only [qGo, Bool.or_false, decide_eq_true_eq]; exact n34), show sls false (b.toNat : Int) = false by simp only [sls, Bool.not_false, Bool.and_true, decide_eq_false_iff_not]; exact n92, um_run t false o' r hu, List.length_cons]
          omega
theorem quot_parts (l : List UInt8) (n : Nat) (hn : n ≤ l.length) (h : (unq (l.take n)).isSome = true) : 2 ≤ n ∧ ∃ M r, l = 34 :: (M ++ 34 :: r) ∧ M.length + 2 = n ∧ (um M false).isSome = true := by
  unfold unq at h
  rw [List.length_take, Nat.min_eq_left hn] at h
  by_cases hb : n < 2 ∨ (l.take n).getD 0 0 ≠ 34 ∨ (l.take n).getD (n - 1) 0 ≠ 34
  · rw [if_pos hb] at h; cases h
  · rw [if_neg hb] at h
    simp only [not_or, Decidable.not_not] at hb
    obtain ⟨h2, ha, hz⟩ := hb
    refine ⟨by omega, (l.drop 1).take (n - 2), l.drop n, ?_, by simp; omega, ?_⟩
    · rw [getD_take l _ _ (by omega)] at ha hz
      have e1 : l = l.take 1 ++ l.drop 1 := (List.take_append_drop 1 l).symm
      have e0 : l.take 1 = [34] := by
        cases l with
        | nil => simp at hn; omega
        | cons x y => simp at ha ⊢; exact ha
      have e2 : l.drop 1 = (l.drop 1).take (n - 2) ++ (l.drop 1).drop (n - 2) := (List.take_append_drop _ _).symm
      have e3 : (l.drop 1).drop (n - 2) = l.drop (n - 1) := by rw [List.drop_drop]; congr 1; omega
      have e4 : l.drop (n - 1) = 34 :: l.drop n := by
        rw [List.drop_eq_getElem_cons (by omega)]
        congr 1
        · simpa [List.getD_eq_getElem?_getD, List.getElem?_eq_getElem (show n - 1 < l.length by omega)] using hz
        · congr 1; omega
      rw [e3, e4] at e2
      conv => lhs; rw [e1, e0, e2]
      rfl
    · have : (l.take n).drop 1 = (l.drop 1).take (n - 1) := List.drop_take
      rw [this, List.take_take, Nat.min_eq_left (by omega)] at h
      exact h
end Go.Proofs.YtiabkkdeonepgaaGreatDoor
