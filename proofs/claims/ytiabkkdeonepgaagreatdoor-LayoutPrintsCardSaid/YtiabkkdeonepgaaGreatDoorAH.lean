import Derived.Test.YtiabkkdeonepgaaGreatDoorXT
import Derived.Lib.IndexLaws
namespace Go.Proofs.YtiabkkdeonepgaaGreatDoor
open Go.RowKit
theorem runM_take (st go : Bool → Int → Bool) : ∀ (c : Bool) (l : List UInt8) (m : Nat), runM st go c (l.take m) = min (runM st go c l) m
  | c, [], m => by simp [runM]
  | c, b :: t, 0 => by simp [runM]
  | c, b :: t, m + 1 => by
    rw [List.take_succ_cons]
    have ih := runM_take st go (st c b.toNat) t m
    cases hg : go c b.toNat
    · rw [runM_stop hg, runM_stop hg]; simp
    · rw [runM_go hg, runM_go hg, ih]; omega
theorem runM_all (st : Bool → Int → Bool) (p : Int → Bool) : ∀ (c : Bool) (l : List UInt8) (i : Nat), i < runM st (fun _ n => p n) c l → p (l.getD i 0).toNat = true
  | c, [], i, h => by simp [runM] at h
  | c, b :: t, i, h => by
    cases hg : p b.toNat
    · rw [runM_stop (go := fun _ n => p n) hg] at h; omega
    · cases i with
      | zero => exact hg
      | succ j =>
        rw [runM_go (go := fun _ n => p n) hg] at h
        exact runM_all st p (st c b.toNat) t j (by omega)
theorem wd_low {n : Int} (h : wdN n = true) : n < 128 := by
  unfold wdN letN digN at h
  simp at h
  omega
theorem wLen_low (l : List UInt8) (i : Nat) (h : i < wLen l) : (l.getD i 0).toNat < 128 := by
  have := wd_low (runM_all wSt wdN false l i h)
  omega
theorem getD_take (l : List UInt8) (m i : Nat) (h : i < m) : (l.take m).getD i 0 = l.getD i 0 := by
  simp only [List.getD_eq_getElem?_getD, List.getElem?_take, if_pos h]
theorem take_take' (l : List UInt8) (n m : Nat) (h : n ≤ m) : (l.take m).take n = l.take n := by
  rw [List.take_take, Nat.min_eq_left h]
theorem prefix_take {l p : List UInt8} {m : Nat} (h : Lib.hasPrefix (l.take m) p = true) : Lib.hasPrefix l p = true := by
  unfold Lib.hasPrefix at h ⊢
  rw [List.isPrefixOf_iff_prefix] at h ⊢
  exact h.trans (List.take_prefix m l)
theorem prefix_take2 {l p : List UInt8} {m : Nat} (h : Lib.hasPrefix l p = true) (hm : p.length ≤ m) : Lib.hasPrefix (l.take m) p = true := by
  unfold Lib.hasPrefix at h ⊢
  rw [List.isPrefixOf_iff_prefix] at h ⊢
  exact List.prefix_take_iff.2 ⟨h, hm⟩
theorem first_take (l : List UInt8) (m : Nat) (he : (firstL l).2.2 = 0) (hk : (firstL l).1 ≠ 0) (hn : (firstL l).2.1 ≤ m) (hm : m ≤ l.length) : firstL (l.take m) = firstL l := by
  have hne : l ≠ [] := fun e => hk ((first_kind l he).1.2 e)
  have hn0 : (firstL l).2.1 ≠ 0 := fun e => hne ((first_kind l he).2.1 e)
  have hg : (l.take m).getD 0 0 = l.getD 0 0 := getD_take l m 0 (by omega)
  have hne2 : l.take m ≠ [] := by
    intro e
    have := congrArg List.length e
    rw [List.length_take] at this
    simp at this
    rcases this with h | h
    · omega
    · exact hne h
  have hw : wLen (l.take m) = min (wLen l) m := runM_take _ _ _ _ _
  unfold firstL at he hk hn ⊢
  rw [if_neg hne] at he hk hn ⊢
  rw [if_neg hne2, hg]
  by_cases h1 : letN (l.getD 0 0).toNat = true
  · rw [if_pos h1] at he hk hn ⊢
    rw [if_pos h1]
    have hle : wLen l ≤ m := by
      unfold wordL at hn he
      split at hn
      · exact hn
      · rename_i h
        rw [if_neg h] at he
        split at hn
        · rename_i h'; rw [if_pos h'] at he; cases he
        · exact hn
    unfold wordL
    rw [hw, Nat.min_eq_left hle, take_take' l _ _ hle]
  rw [if_neg h1] at he hk hn ⊢
  rw [if_neg h1]
  by_cases h2 : digN (l.getD 0 0).toNat = true
  · rw [if_pos h2] at he hk hn ⊢
    rw [if_pos h2]
    have hle : wLen l ≤ m := by
      unfold numL at hn he
      split at hn
      · exact hn
      · rename_i h
        rw [if_neg h] at he
        cases he
    unfold numL
    rw [hw, Nat.min_eq_left hle, take_take' l _ _ hle]
  rw [if_neg h2] at he hk hn ⊢
  rw [if_neg h2]
  by_cases h3 : (l.getD 0 0).toNat = 34
  · rw [if_pos h3] at he hk hn ⊢
    rw [if_pos h3]
    have hle : qLong l ≤ m := by
      unfold quotL at hn he
      split at hn
      · exact hn
      · rename_i h
        rw [if_neg h] at he
        cases he
    have hq : qLong (l.take m) = qLong l := by
      unfold qLong at hle ⊢
      have hd : (l.take m).drop 1 = (l.drop 1).take (m - 1) := List.drop_take
      have hr : qLen ((l.drop 1).take (m - 1)) = min (qLen (l.drop 1)) (m - 1) := runM_take _ _ _ _ _
      rw [hd, hr, List.length_take]
      have : 0 < l.length := List.length_pos_iff.2 hne
      omega
    unfold quotL
    rw [hq, take_take' l _ _ hle]
  rw [if_neg h3] at he hk hn ⊢
  rw [if_neg h3]
  unfold signL at he hk hn ⊢
  rw [hg]
  by_cases h4 : Lib.hasPrefix l [61, 61] = true
  · rw [if_pos h4] at he hk hn ⊢
    rw [if_pos (prefix_take2 h4 hn)]
  · rw [if_neg h4]
    rw [if_neg (fun h => h4 (prefix_take h))]
theorem first_low (l : List UInt8) (he : (firstL l).2.2 = 0) (hk : (firstL l).1 ≠ 0) : (l.getD ((firstL l).2.1 - 1) 0).toNat < 128 := by
  have hne : l ≠ [] := fun e => hk ((first_kind l he).1.2 e)
  have hn0 : (firstL l).2.1 ≠ 0 := fun e => hne ((first_kind l he).2.1 e)
  unfold firstL at he hk hn0 ⊢
  rw [if_neg hne] at he hk hn0 ⊢
  by_cases h1 : letN (l.getD 0 0).toNat = true
  · rw [if_pos h1] at he hk hn0 ⊢
    have e : (wordL l).2.1 = wLen l := by
      unfold wordL at he ⊢
      split
      · rfl
      · rename_i h
        rw [if_neg h] at he
        split
        · rename_i h'; rw [if_pos h'] at he; cases he
        · rfl
    rw [e] at hn0 ⊢
    exact wLen_low l _ (by omega)
  rw [if_neg h1] at he hk hn0 ⊢
  by_cases h2 : digN (l.getD 0 0).toNat = true
  · rw [if_pos h2] at he hk hn0 ⊢
    have e : (numL l).2.1 = wLen l := by
      unfold numL at he ⊢
      split
      · rfl
      · rename_i h
        rw [if_neg h] at he
        cases he
    rw [e] at hn0 ⊢
    exact wLen_low l _ (by omega)
  rw [if_neg h2] at he hk hn0 ⊢
  by_cases h3 : (l.getD 0 0).toNat = 34
  · rw [if_pos h3] at he hk hn0 ⊢
    unfold quotL at he hn0 ⊢
    by_cases h : (unq (l.take (qLong l))).isSome = true
    · rw [if_pos h] at hn0 ⊢
      have hle : qLong l ≤ l.length := Nat.min_le_right _ _
      unfold unq at h
      rw [List.length_take, Nat.min_eq_left hle] at h
      by_cases hb : qLong l < 2 ∨ (l.take (qLong l)).getD 0 0 ≠ 34 ∨ (l.take (qLong l)).getD (qLong l - 1) 0 ≠ 34
      · rw [if_pos hb] at h; cases h
      · have h34 : (l.take (qLong l)).getD (qLong l - 1) 0 = 34 := by
          by_cases hx : (l.take (qLong l)).getD (qLong l - 1) 0 = 34
          · exact hx
          · exact absurd (.inr (.inr hx)) hb
        rw [getD_take l _ _ (by simp only at hn0; omega)] at h34
        show (l.getD (qLong l - 1) 0).toNat < 128
        rw [h34]
        decide
    · rw [if_neg h] at he; cases he
  rw [if_neg h3] at he hk hn0 ⊢
  unfold signL at he hn0 ⊢
  by_cases h4 : Lib.hasPrefix l [61, 61] = true
  · rw [if_pos h4]
    unfold Lib.hasPrefix at h4
    rw [List.isPrefixOf_iff_prefix] at h4
    obtain ⟨t, rfl⟩ := h4
    show (61 : UInt8).toNat < 128
    decide
  · rw [if_neg h4] at he ⊢
    by_cases h5 : 0 ≤ Lib.indexByte signs (l.getD 0 0)
    · rw [if_pos h5]
      obtain ⟨o, ho⟩ := Int.eq_ofNat_of_zero_le h5
      have := (Lib.indexByte_some ho).1
      have hm := List.mem_of_getElem? this
      show (l.getD 0 0).toNat < 128
      have hall : ∀ x ∈ signs, x.toNat < 128 := by decide
      exact hall _ hm
    · rw [if_neg h5] at he; cases he
theorem cut_low (l : List UInt8) (hg : badAt l = none) (k : Nat) (h : k < l.length) (hb : (l.getD k 0).toNat < 128) : badAt (l.take (k + 1)) = none := by
  have h1 := (cut_ok l hg k (by omega) (fun _ => by omega)).1
  rw [List.take_succ_eq_append_getElem h]
  refine good_app h1 (ascii_good _ fun b hb' => ?_)
  simp only [List.mem_singleton] at hb'
  subst hb'
  have e : l.getD k 0 = l[k] := by simp [List.getD_eq_getElem?_getD, h]
  rw [e] at hb
  exact hb
theorem ext_none (s : ByteArray) (a : Nat) : s.extract a a = ⟨#[]⟩ := by
  apply ByteArray.ext
  apply Array.ext'
  rw [ByteArray.data_extract, Array.toList_extract, List.extract_eq_take_drop]
  simp
end Go.Proofs.YtiabkkdeonepgaaGreatDoor
