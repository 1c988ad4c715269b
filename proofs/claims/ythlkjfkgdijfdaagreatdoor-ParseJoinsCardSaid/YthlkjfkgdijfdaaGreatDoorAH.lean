/- Mathematics: a text that is cut behind a token has the tokens up to there. -/
import Derived.Test.YthlkjfkgdijfdaaGreatDoorXT
import Derived.Lib.IndexLaws
namespace Go.Proofs.YthlkjfkgdijfdaaGreatDoor
open Go.RowKit

theorem runM_take (st go : Bool → Int → Bool) : ∀ (c : Bool) (l : List UInt8) (m : Nat), runM st go c (l.take m) = min (runM st go c l) m
  | c, [], m => by simp [runM]
  | c, b :: t, 0 => by simp [runM]
  | c, b :: t, m + 1 => by
    rw [List.take_succ_cons]
    have ih := runM_take st go (st c b.toNat) t m
    cases hg : go c b.toNat
    · rw [runM_stop hg, runM_stop hg]; simp
    · rw [runM_go hg, runM_go hg, ih]; omega
theorem runM_all (st : Bool → Int → Bool) (p : Int → Bool) : ∀ (c : Bool) (l : List UInt8) (i : Nat), i < runM st (fun _ n => p n) c l → p (l.getD i 0).toNat = true
  | c, [], i, h => by simp [runM] at h
  | c, b :: t, i, h => by
    cases hg : p b.toNat
    · rw [runM_stop (go := fun _ n => p n) hg] at h; omega
    · cases i with
      | zero => exact hg
      | succ j =>
        rw [runM_go (go := fun _ n => p n) hg] at h
        exact runM_all st p (st c b.toNat) t j (by omega)
theorem wd_low {n : Int} (h : wdN n = true) : n < 128 := by
  unfold wdN letN digN at h
  simp at h
  omega
theorem wLen_low (l : List UInt8) (i : Nat) (h : i < wLen l) : (l.getD i 0).toNat < 128 := by
  have := wd_low (runM_all wSt wdN false l i h)
  omega
theorem getD_take (l : List UInt8) (m i : Nat) (h : i < m) : (l.take m).getD i 0 = l.getD i 0 := by
  simp only [List.getD_eq_getElem?_getD, List.getElem?_take, if_pos h]
theorem take_take' (l : List UInt8) (n m : Nat) (h : n ≤ m) : (l.take m).take n = l.take n := by
  rw [List.take_take, Nat.min_eq_left h]
theorem prefix_take {l p : List UInt8} {m : Nat} (h : Lib.hasPrefix (l.take m) p = true) : Lib.hasPrefix l p = true := by
  unfold Lib.hasPrefix at h ⊢
  rw [List.isPrefixOf_iff_prefix] at h ⊢
  exact h.trans (List.take_prefix m l)
theorem prefix_take2 {l p : List UInt8} {m : Nat} (h : Lib.hasPrefix l p = true) (hm : p.length ≤ m) : Lib.hasPrefix (l.take m) p = true := by
  unfold Lib.hasPrefix at h ⊢
  rw [List.isPrefixOf_iff_prefix] at h ⊢
  exact List.prefix_take_iff.2 ⟨h, hm⟩
/-- A token of a text is that of what stands up to a place behind it. -/
theorem first_take (l : List UInt8) (m : Nat) (he : (firstL l).2.2 = 0) (hk : (firstL l).1 ≠ 0) (hn : (firstL l).2.1 ≤ m) (hm : m ≤ l.length) : firstL (l.take m) = firstL l := by
  have hne : l ≠ [] := fun e => hk ((first_kind l he).1.2 e)
  have hn0 : (firstL l).2.1 ≠ 0 := fun e => hne ((first_kind l he).2.1 e)
  have hg : (l.take m).getD 0 0 = l.getD 0 0 := getD_take l m 0 (by omega)
  have hne2 : l.take m ≠ [] := by
    intro e
    have := congrArg List.length e
    rw [List.length_take] at this
    simp at this
    rcases this with h | h
    · omega
    · exact hne h
  have hw : wLen (l.take m) = min (wLen l) m := runM_take _ _ _ _ _
  unfold firstL at he hk hn ⊢
  rw [if_neg hne] at he hk hn ⊢
  rw [if_neg hne2, hg]
  by_cases h1 : letN (l.getD 0 0).toNat = true
  · rw [if_pos h1] at he hk hn ⊢
    rw [if_pos h1]
    have hle : wLen l ≤ m := by
      unfold wordL at hn he
      split at hn
      · exact hn
      · rename_i h
        rw [if_neg h] at he
        split at hn
        · rename_i h'; rw [if_pos h'] at he; cases he
        · exact hn
    unfold wordL
    rw [hw, Nat.min_eq_left hle, take_take' l _ _ hle]
  rw [if_neg h1] at he hk hn ⊢
  rw [if_neg h1]
  by_cases h2 : digN (l.getD 0 0).toNat = true
  · rw [if_pos h2] at he hk hn ⊢
    rw [if_pos h2]
    have hle : wLen l ≤ m := by
      unfold numL at hn he
      split at hn
      · exact hn
      · rename_i h
        rw [if_neg h] at he
        cases he
    unfold numL
    rw [hw, Nat.min_eq_left hle, take_take' l _ _ hle]
  rw [if_neg h2] at he hk hn ⊢
  rw [if_neg h2]
  by_cases h3 : (l.getD 0 0).toNat = 34
  · rw [if_pos h3] at he hk hn ⊢
    rw [if_pos h3]
    have hle : qLong l ≤ m := by
      unfold quotL at hn he
      split at hn
      · exact hn
      · rename_i h
        rw [if_neg h] at he
        cases he
    have hq : qLong (l.take m) = qLong l := by
      unfold qLong at hle ⊢
      have hd : (l.take m).drop 1 = (l.drop 1).take (m - 1) := List.drop_take
      have hr : qLen ((l.drop 1).take (m - 1)) = min (qLen (l.drop 1)) (m - 1) := runM_take _ _ _ _ _
      rw [hd, hr, List.length_take]
      have : 0 < l.length := List.length_pos_iff.2 hne
      omega
    unfold quotL
    rw [hq, take_take' l _ _ hle]
  rw [if_neg h3] at he hk hn ⊢
  rw [if_neg h3]
  unfold signL at he hk hn ⊢
  rw [hg]
  by_cases h4 : Lib.hasPrefix l [61, 61] = true
  · rw [if_pos h4] at he hk hn ⊢
    rw [if_pos (prefix_take2 h4 hn)]
  · rw [if_neg h4]
    rw [if_neg (fun h => h4 (prefix_take h))]
/-- A token's last byte is below 128. -/
theorem first_low (l : List UInt8) (he : (firstL l).2.2 = 0) (hk : (firstL l).1 ≠ 0) : (l.getD ((firstL l).2.1 - 1) 0).toNat < 128 := by
  have hne : l ≠ [] := fun e => hk ((first_kind l he).1.2 e)
  have hn0 : (firstL l).2.1 ≠ 0 := fun e => hne ((first_kind l he).2.1 e)
  unfold firstL at he hk hn0 ⊢
  rw [if_neg hne] at he hk hn0 ⊢
  by_cases h1 : letN (l.getD 0 0).toNat = true
  · rw [if_pos h1] at he hk hn0 ⊢
    have e : (wordL l).2.1 = wLen l := by
      unfold wordL at he ⊢
      split
      · rfl
      · rename_i h
        rw [if_neg h] at he
        split
        · rename_i h'; rw [if_pos h'] at he; cases he
        · rfl
    rw [e] at hn0 ⊢
    exact wLen_low l _ (by omega)
  rw [if_neg h1] at he hk hn0 ⊢
  by_cases h2 : digN (l.getD 0 0).toNat = true
  · rw [if_pos h2] at he hk hn0 ⊢
    have e : (numL l).2.1 = wLen l := by
      unfold numL at he ⊢
      split
      · rfl
      · rename_i h
        rw [if_neg h] at he
        cases he
    rw [e] at hn0 ⊢
    exact wLen_low l _ (by omega)
  rw [if_neg h2] at he hk hn0 ⊢
  by_cases h3 : (l.getD 0 0).toNat = 34
  · rw [if_pos h3] at he hk hn0 ⊢
    unfold quotL at he hn0 ⊢
    by_cases h : (unq (l.take (qLong l))).isSome = true
    · rw [if_pos h] at hn0 ⊢
      have hle : qLong l ≤ l.length := Nat.min_le_right _ _
      unfold unq at h
      rw [List.length_take, Nat.min_eq_left hle] at h
      by_cases hb : qLong l < 2 ∨ (l.take (qLong l)).getD 0 0 ≠ 34 ∨ (l.take (qLong l)).getD (qLong l - 1) 0 ≠ 34
      · rw [if_pos hb] at h; cases h
      · have h34 : (l.take (qLong l)).getD (qLong l - 1) 0 = 34 := by
          by_cases hx : (l.take (qLong l)).getD (qLong l - 1) 0 = 34
          · exact hx
          · exact absurd (.inr (.inr hx)) hb
        rw [getD_take l _ _ (by simp only at hn0; omega)] at h34
        show (l.getD (qLong l - 1) 0).toNat < 128
        rw [h34]
        decide
    · rw [if_neg h] at he; cases he
  rw [if_neg h3] at he hk hn0 ⊢
  unfold signL at he hn0 ⊢
  by_cases h4 : Lib.hasPrefix l [61, 61] = true
  · rw [if_pos h4]
    unfold Lib.hasPrefix at h4
    rw [List.isPrefixOf_iff_prefix] at h4
    obtain ⟨t, rfl⟩ := h4
    show (61 : UInt8).toNat < 128
    decide
  · rw [if_neg h4] at he ⊢
    by_cases h5 : 0 ≤ Lib.indexByte signs (l.getD 0 0)
    · rw [if_pos h5]
      obtain ⟨o, ho⟩ := Int.eq_ofNat_of_zero_le h5
      have := (Lib.indexByte_some ho).1
      have hm := List.mem_of_getElem? this
      show (l.getD 0 0).toNat < 128
      have hall : ∀ x ∈ signs, x.toNat < 128 := by decide
      exact hall _ hm
    · rw [if_neg h5] at he; cases he
/-- Behind a byte below 128 one may cut. -/
theorem cut_low (l : List UInt8) (hg : badAt l = none) (k : Nat) (h : k < l.length) (hb : (l.getD k 0).toNat < 128) : badAt (l.take (k + 1)) = none := by
  have h1 := (cut_ok l hg k (by omega) (fun _ => by omega)).1
  rw [List.take_succ_eq_append_getElem h]
  refine good_app h1 (ascii_good _ fun b hb' => ?_)
  simp only [List.mem_singleton] at hb'
  subst hb'
  have e : l.getD k 0 = l[k] := by simp [List.getD_eq_getElem?_getD, h]
  rw [e] at hb
  exact hb
theorem lLen_take (l : List UInt8) (m : Nat) : lLen (l.take m) = min (lLen l) m := runM_take _ _ _ _ _
/-- Where a text is cut: what stands from a place on. -/
theorem tl_cut {s s' : ByteArray} {E : Nat} (h : s'.data.toList = s.data.toList.take E) (k : Nat) : tl s' k = (tl s k).take (E - k) := by
  unfold tl
  rw [h, List.drop_take]
theorem size_cut {s s' : ByteArray} {E : Nat} (h : s'.data.toList = s.data.toList.take E) (hE : E ≤ s.size) : s'.size = E := by
  have := congrArg List.length h
  rw [List.length_take] at this
  simp only [Array.length_toList, ByteArray.size_data] at this
  omega
theorem ext_cut {s s' : ByteArray} {E : Nat} (h : s'.data.toList = s.data.toList.take E) (a b : Nat) (hb : b ≤ E) : s'.extract a b = s.extract a b := by
  apply ByteArray.ext
  apply Array.ext'
  rw [ByteArray.data_extract, ByteArray.data_extract, Array.toList_extract, Array.toList_extract, List.extract_eq_take_drop, List.extract_eq_take_drop, h, List.drop_take, List.take_take]
  congr 1
  omega
/-- A token that ends ahead of the cut is the same one. -/
theorem tok_cut {s s' : ByteArray} {E : Nat} (h : s'.data.toList = s.data.toList.take E) (k : Nat) (hk : k ≤ s.size) (he : errK s k = 0) (hkd : (tokK s k).kind ≠ 0) (hE : endK s k ≤ E) (hEs : E ≤ s.size) :
    errK s' k = 0 ∧ tokK s' k = tokK s k ∧ endK s' k = endK s k := by
  have ha := atK_le s k hk
  have hpos := tok_pos s k he hkd
  have e1 : atK s' k = atK s k := by
    unfold atK at hpos ⊢
    rw [tl_cut h, lLen_take]
    unfold atK at ha
    have : lLen (tl s k) ≤ E - k := by omega
    omega
  have e2 : firstL (tl s' (atK s k)) = firstL (tl s (atK s k)) := by
    rw [tl_cut h]
    refine first_take _ _ he hkd ?_ (by rw [tl_len]; omega)
    unfold endK at hE
    omega
  refine ⟨?_, ?_, ?_⟩
  · unfold errK at he ⊢
    rw [e1, e2]
    exact he
  · unfold tokK
    rw [e1, e2]
    unfold endK at hE
    rw [ext_cut h _ _ (by omega), ext_cut h _ _ hE]
  · unfold endK
    rw [e1, e2]
def endT (E : Nat) : Tok := ⟨0, E, ⟨#[]⟩, ⟨#[]⟩⟩
theorem ext_none (s : ByteArray) (a : Nat) : s.extract a a = ⟨#[]⟩ := by
  apply ByteArray.ext
  apply Array.ext'
  rw [ByteArray.data_extract, Array.toList_extract, List.extract_eq_take_drop]
  simp
theorem lexF_cut (s : ByteArray) : ∀ (f k n j : Nat) (L : List Tok) (f' : Nat) (s' : ByteArray) (E : Nat), k ≤ s.size → lexF s f k n = .good L → j < L.length → E = k + (jl (L.take j)).length →
    s'.data.toList = s.data.toList.take E → E + 1 ≤ f' + k → lexF s' f' k n = .good (L.take j ++ [endT E])
  | 0, k, n, j, L, f', s', E, hk, h, hj, hE, hs, hf => by simp [lexF] at h
  | f + 1, k, n, j, L, 0, s', E, hk, h, hj, hE, hs, hf => by omega
  | f + 1, k, n, j, L, f' + 1, s', E, hk, h, hj, hE, hs, hf => by
    obtain ⟨g1, g2, g3⟩ := lexF_good s _ _ _ _ hk h
    have hEs : E ≤ s.size := by
      have e := congrArg List.length g1
      rw [tl_len] at e
      have e2 := congrArg jl (List.take_append_drop j L)
      rw [jl_append] at e2
      rw [← e2, List.length_append] at e
      omega
    by_cases he : errK s k = 0
    · by_cases hn : n = 4000
      · subst hn; rw [lexF_many he] at h; cases h
      · cases j with
        | zero =>
          have hEk : E = k := by simpa [jl] using hE
          subst hEk
          have t0 : tl s' E = [] := by rw [tl_cut hs]; simp
          have a0 : atK s' E = E := by unfold atK; rw [t0]; rfl
          have f0 : firstL (tl s' (atK s' E)) = (0, 0, 0) := by rw [a0, t0]; rfl
          have h1 : errK s' E = 0 := by unfold errK; rw [f0]
          have h2 : tokK s' E = endT E := by
            unfold tokK endT
            rw [f0, a0]
            simp only [Nat.add_zero, ext_none]
          rw [lexF_end h1 hn (by rw [h2]; rfl), h2]
          rfl
        | succ j =>
          by_cases h0 : (tokK s k).kind = 0
          · rw [lexF_end he hn h0] at h
            cases h
            simp at hj
          · rw [lexF_next he hn h0] at h
            cases hr : lexF s f (endK s k) (n + 1) with
            | bad e a => rw [hr] at h; cases h
            | good l' =>
              rw [hr] at h
              cases h
              simp only [List.cons_append, List.nil_append, List.length_cons, List.take_succ_cons] at hj hE ⊢
              have hts := tok_size s k hk
              have htl := tok_lead s k hk
              have hEE : E = endK s k + (jl (l'.take j)).length := by
                rw [hE]
                have : (jl (tokK s k :: l'.take j)).length = (tokK s k).lead.size + (tokK s k).text.size + (jl (l'.take j)).length := by
                  simp [jl, Nat.add_assoc]
                rw [this]
                omega
              have hpos := tok_pos s k he h0
              have ha := atK_le s k hk
              obtain ⟨c1, c2, c3⟩ := tok_cut hs k hk he h0 (by omega) hEs
              have ih := lexF_cut s f (endK s k) (n + 1) j l' f' s' E (endK_le s k hk).2 hr (by omega) hEE hs (by omega)
              rw [lexF_next c1 hn (by rw [c2]; exact h0), c2, c3, ih]
              rfl
    · rw [lexF_err he] at h; cases h
theorem lexF_low (s : ByteArray) : ∀ (f k n j : Nat) (L : List Tok), k ≤ s.size → lexF s f k n = .good L → j + 1 < L.length →
    1 ≤ k + (jl (L.take (j + 1))).length ∧ (s.data.toList.getD (k + (jl (L.take (j + 1))).length - 1) 0).toNat < 128
  | 0, k, n, j, L, hk, h, hj => by simp [lexF] at h
  | f + 1, k, n, j, L, hk, h, hj => by
    by_cases he : errK s k = 0
    · by_cases hn : n = 4000
      · subst hn; rw [lexF_many he] at h; cases h
      · by_cases h0 : (tokK s k).kind = 0
        · rw [lexF_end he hn h0] at h
          cases h
          simp at hj
        · rw [lexF_next he hn h0] at h
          cases hr : lexF s f (endK s k) (n + 1) with
          | bad e a => rw [hr] at h; cases h
          | good l' =>
            rw [hr] at h
            cases h
            simp only [List.cons_append, List.nil_append, List.length_cons, List.take_succ_cons] at hj ⊢
            have hts := tok_size s k hk
            have htl := tok_lead s k hk
            have hEE : k + (jl (tokK s k :: l'.take j)).length = endK s k + (jl (l'.take j)).length := by
              have : (jl (tokK s k :: l'.take j)).length = (tokK s k).lead.size + (tokK s k).text.size + (jl (l'.take j)).length := by
                simp [jl, Nat.add_assoc]
              rw [this]
              omega
            rw [hEE]
            have hpos := tok_pos s k he h0
            cases j with
            | zero =>
              have hl := first_low _ he h0
              simp only [List.take_zero, jl, List.flatMap_nil, List.length_nil, Nat.add_zero]
              refine ⟨by omega, ?_⟩
              unfold endK at hpos ⊢
              have e : (tl s (atK s k)).getD ((firstL (tl s (atK s k))).2.1 - 1) 0 = s.data.toList.getD (atK s k + (firstL (tl s (atK s k))).2.1 - 1) 0 := by
                unfold tl
                simp only [List.getD_eq_getElem?_getD, List.getElem?_drop]
                rw [show atK s k + ((firstL (List.drop (atK s k) s.data.toList)).2.1 - 1) = atK s k + (firstL (List.drop (atK s k) s.data.toList)).2.1 - 1 by unfold tl at hpos; omega]
              rw [← e]
              exact hl
            | succ j => exact lexF_low s f (endK s k) (n + 1) j l' (endK_le s k hk).2 hr (by omega)
    · rw [lexF_err he] at h; cases h
/-- A text that is cut behind one of its tokens has the tokens up to there, and the end. -/
theorem lexR_cut {s : ByteArray} {L : List Tok} (h : lexR s = .good L) (j : Nat) (hj : j < L.length) {s' : ByteArray} (hs : s'.data.toList = jl (L.take j)) : lexR s' = .good (L.take j ++ [endT (jl (L.take j)).length]) := by
  obtain ⟨⟨g1, _, _⟩, hsz⟩ := lexR_good h
  rw [tl_zero] at g1
  have e2 := congrArg jl (List.take_append_drop j L)
  rw [jl_append, g1] at e2
  have hE : (jl (L.take j)).length ≤ s.size := by
    have := congrArg List.length e2
    rw [List.length_append] at this
    simp only [Array.length_toList, ByteArray.size_data] at this
    omega
  have hs2 : s'.data.toList = s.data.toList.take (jl (L.take j)).length := by
    rw [hs, ← e2, List.take_left']
    rfl
  have hz := size_cut hs2 hE
  unfold lexR at h
  by_cases h1 : s.size > 16384
  · rw [if_pos h1] at h; cases h
  rw [if_neg h1] at h
  by_cases h2 : badAt s.data.toList ≠ none
  · rw [if_pos h2] at h; cases h
  rw [if_neg h2] at h
  have hg : badAt s.data.toList = none := by
    by_cases hx : badAt s.data.toList = none
    · exact hx
    · exact absurd hx h2
  have hg' : badAt s'.data.toList = none := by
    cases j with
    | zero =>
      rw [hs]
      exact bad_nil
    | succ j =>
      obtain ⟨l1, l2⟩ := lexF_low s _ 0 0 j L (by omega) h hj
      rw [Nat.zero_add] at l1 l2
      have := cut_low s.data.toList hg ((jl (L.take (j + 1))).length - 1) (by simp only [Array.length_toList, ByteArray.size_data]; omega) l2
      rw [show (jl (L.take (j + 1))).length - 1 + 1 = (jl (L.take (j + 1))).length by omega] at this
      rw [hs2]
      exact this
  unfold lexR
  rw [if_neg (by omega), if_neg (by simp [hg'])]
  exact lexF_cut s _ 0 0 j L _ s' _ (by omega) h hj (by omega) hs2 (by omega)
end Go.Proofs.YthlkjfkgdijfdaaGreatDoor
