/- Mathematics: a text behind another one, a line feed between, has the tokens of both. -/
import Derived.Test.YthlkjfkgdijfdaaGreatDoorAH
namespace Go.Proofs.YthlkjfkgdijfdaaGreatDoor
open Go.RowKit

theorem runM_app (st go : Bool → Int → Bool) : ∀ (c : Bool) (l m : List UInt8), runM st go c l < l.length → runM st go c (l ++ m) = runM st go c l
  | c, [], m, h => by simp at h
  | c, b :: t, m, h => by
    rw [List.cons_append]
    cases hg : go c b.toNat
    · rw [runM_stop hg, runM_stop hg]
    · rw [runM_go hg] at h ⊢
      rw [runM_go hg, runM_app st go _ t m (by simp at h; omega)]
theorem runM_feed (st go : Bool → Int → Bool) (h10 : ∀ c, go c 10 = false) : ∀ (c : Bool) (l m : List UInt8), runM st go c (l ++ 10 :: m) = runM st go c l
  | c, [], m => by
    rw [List.nil_append, runM_stop (h10 c)]
    rfl
  | c, b :: t, m => by
    rw [List.cons_append]
    cases hg : go c b.toNat
    · rw [runM_stop hg, runM_stop hg]
    · rw [runM_go hg, runM_go hg, runM_feed st go h10]
theorem wLen_feed (l m : List UInt8) : wLen (l ++ 10 :: m) = wLen l := runM_feed _ _ (fun _ => rfl) _ _ _
theorem lead_feed : ∀ (c : Bool) (l m : List UInt8), runM cmt lGo c l = l.length → runM cmt lGo c (l ++ 10 :: m) = l.length + 1 + lLen m
  | c, [], m, _ => by
    rw [List.nil_append, runM_go (go := lGo) (show lGo c (10 : UInt8).toNat = true by cases c <;> rfl), show cmt c ((10 : UInt8).toNat : Int) = false from rfl]
    simp [lLen]
  | c, b :: t, m, h => by
    rw [List.cons_append]
    cases hg : lGo c b.toNat
    · rw [runM_stop hg] at h; simp at h
    · rw [runM_go hg] at h ⊢
      rw [lead_feed _ t m (by simp at h; omega), List.length_cons]
      omega
/-- What is read between quotes has no end of its own within it. -/
theorem um_run : ∀ (W : List UInt8) (c : Bool) (o : List UInt8) (r : List UInt8), um W c = some o → runM sls qGo c (W ++ 34 :: r) = W.length
  | [], true, o, r, h => by simp [um] at h
  | [], false, o, r, h => by
    rw [List.nil_append, runM_stop (show qGo false (34 : UInt8).toNat = false from rfl)]
    rfl
  | b :: t, true, o, r, h => by
    unfold um at h
    split at h
    · cases hu : um t false with
      | none => rw [hu] at h; cases h
      | some o' =>
        rw [List.cons_append, runM_go (show qGo true b.toNat = true by simp [qGo]), show sls true (b.toNat : Int) = false by simp [sls], um_run t false o' r hu, List.length_cons]
        omega
    · cases h
  | b :: t, false, o, r, h => by
    unfold um at h
    split at h
    · rename_i hb
      subst hb
      rw [List.cons_append, runM_go (show qGo false (92 : UInt8).toNat = true from rfl), show sls false ((92 : UInt8).toNat : Int) = true from rfl, um_run t true o r h, List.length_cons]
      omega
    · rename_i hb
      split at h
      · cases h
      · rename_i hb2
        cases hu : um t false with
        | none => rw [hu] at h; cases h
        | some o' =>
          have n34 : (b.toNat : Int) ≠ 34 := fun e => hb2 (.inr (UInt8.toNat_inj.1 (by simpa using (by omega : b.toNat = 34))))
          have n92 : (b.toNat : Int) ≠ 92 := fun e => hb (UInt8.toNat_inj.1 (by simpa using (by omega : b.toNat = 92)))
          rw [List.cons_append, runM_go (show qGo false b.toNat = true by simp only [qGo, Bool.or_false, decide_eq_true_eq]; exact n34), show sls false (b.toNat : Int) = false by simp only [sls, Bool.not_false, Bool.and_true, decide_eq_false_iff_not]; exact n92, um_run t false o' r hu, List.length_cons]
          omega
theorem quot_parts (l : List UInt8) (n : Nat) (hn : n ≤ l.length) (h : (unq (l.take n)).isSome = true) : 2 ≤ n ∧ ∃ M r, l = 34 :: (M ++ 34 :: r) ∧ M.length + 2 = n ∧ (um M false).isSome = true := by
  unfold unq at h
  rw [List.length_take, Nat.min_eq_left hn] at h
  by_cases hb : n < 2 ∨ (l.take n).getD 0 0 ≠ 34 ∨ (l.take n).getD (n - 1) 0 ≠ 34
  · rw [if_pos hb] at h; cases h
  · rw [if_neg hb] at h
    simp only [not_or, Decidable.not_not] at hb
    obtain ⟨h2, ha, hz⟩ := hb
    refine ⟨by omega, (l.drop 1).take (n - 2), l.drop n, ?_, by simp; omega, ?_⟩
    · rw [getD_take l _ _ (by omega)] at ha hz
      have e1 : l = l.take 1 ++ l.drop 1 := (List.take_append_drop 1 l).symm
      have e0 : l.take 1 = [34] := by
        cases l with
        | nil => simp at hn; omega
        | cons x y => simp at ha ⊢; exact ha
      have e2 : l.drop 1 = (l.drop 1).take (n - 2) ++ (l.drop 1).drop (n - 2) := (List.take_append_drop _ _).symm
      have e3 : (l.drop 1).drop (n - 2) = l.drop (n - 1) := by rw [List.drop_drop]; congr 1; omega
      have e4 : l.drop (n - 1) = 34 :: l.drop n := by
        rw [List.drop_eq_getElem_cons (by omega)]
        congr 1
        · simpa [List.getD_eq_getElem?_getD, List.getElem?_eq_getElem (show n - 1 < l.length by omega)] using hz
        · congr 1; omega
      rw [e3, e4] at e2
      conv => lhs; rw [e1, e0, e2]
      rfl
    · have : (l.take n).drop 1 = (l.drop 1).take (n - 1) := List.drop_take
      rw [this, List.take_take, Nat.min_eq_left (by omega)] at h
      exact h
/-- A token is the same one where a line feed and more stand behind the text. -/
theorem first_feed (l m : List UInt8) (he : (firstL l).2.2 = 0) (hk : (firstL l).1 ≠ 0) : firstL (l ++ 10 :: m) = firstL l := by
  have hne : l ≠ [] := fun e => hk ((first_kind l he).1.2 e)
  have hl0 : 0 < l.length := List.length_pos_iff.2 hne
  have hg : (l ++ 10 :: m).getD 0 0 = l.getD 0 0 := by
    simp only [List.getD_eq_getElem?_getD, List.getElem?_append_left hl0]
  have hne2 : l ++ 10 :: m ≠ [] := by simp
  have hw : wLen l ≤ l.length := runM_le _ _ _ _
  unfold firstL at he hk ⊢
  rw [if_neg hne] at he hk ⊢
  rw [if_neg hne2, hg]
  by_cases h1 : letN (l.getD 0 0).toNat = true
  · rw [if_pos h1, if_pos h1]
    unfold wordL
    rw [wLen_feed, List.take_append_of_le_length hw]
  rw [if_neg h1] at he hk ⊢
  rw [if_neg h1]
  by_cases h2 : digN (l.getD 0 0).toNat = true
  · rw [if_pos h2, if_pos h2]
    unfold numL
    rw [wLen_feed, List.take_append_of_le_length hw]
  rw [if_neg h2] at he hk ⊢
  rw [if_neg h2]
  by_cases h3 : (l.getD 0 0).toNat = 34
  · rw [if_pos h3] at he hk ⊢
    rw [if_pos h3]
    have hu : (unq (l.take (qLong l))).isSome = true := by
      unfold quotL at he
      split at he
      · assumption
      · cases he
    have hle : qLong l ≤ l.length := Nat.min_le_right _ _
    obtain ⟨h2n, M, r, hl, hM, hum⟩ := quot_parts l _ hle hu
    obtain ⟨o, ho⟩ := Option.isSome_iff_exists.1 hum
    have hq : qLong (l ++ 10 :: m) = qLong l := by
      have hd : (l ++ 10 :: m).drop 1 = M ++ 34 :: (r ++ 10 :: m) := by rw [hl]; simp
      have hr : qLen (M ++ 34 :: (r ++ 10 :: m)) = M.length := um_run M false o _ ho
      unfold qLong
      rw [hd, hr]
      unfold qLong at hM hle
      rw [List.length_append]
      have : 0 < l.length := hl0
      unfold qLong at h2n
      omega
    unfold quotL
    rw [hq, List.take_append_of_le_length hle]
  rw [if_neg h3] at he hk ⊢
  rw [if_neg h3]
  unfold signL
  rw [hg]
  have hp : Lib.hasPrefix (l ++ 10 :: m) [61, 61] = Lib.hasPrefix l [61, 61] := by
    unfold Lib.hasPrefix
    match l, hne with
    | [a], _ => simp [List.isPrefixOf]
    | a :: b :: t, _ => simp [List.isPrefixOf]
  rw [hp]
end Go.Proofs.YthlkjfkgdijfdaaGreatDoor
