/- Mathematics: tokens that stand apart enough. -/
import Derived.Test.YtifkjngclkklfaaGreatDoorMGh
import Derived.Test.YtifkjngclkklfaaGreatDoorMGe
import Derived.Test.YtifkjngclkklfaaGreatDoorMGd
import Derived.Lib.IndexLaws
namespace Go.Proofs.YtifkjngclkklfaaGreatDoor
namespace Ps
abbrev Bs := List UInt8
/-! Tokens beside one another. -/
def soft : Bs → Bool
  | [] => false
  | c :: _ => !wdN c.toNat && c != 61
def hard : Bs → Bool
  | [] => false
  | c :: t => !wdN c.toNat && (c :: t) != [61]
def blank (l : Bs) : Prop := ∀ c ∈ l, c = 32 ∨ c = 10
variable (l : List Tok)
def txt (i : Nat) : Bs := (textAt l i).data.toList
/-- These bytes are the tokens from i up to j, with what may stand between. -/
inductive Sg : Nat → Nat → Bs → Prop
  | one (i : Nat) (h : i < l.length) : Sg i (i + 1) (txt l i)
  | two {i j k : Nat} {bs sep cs : Bs} (h1 : Sg i j bs) (h2 : Sg j k cs) (hb : blank sep) (hs : sep ≠ [] ∨ soft (txt l j) = true ∨ hard (txt l (j - 1)) = true) : Sg i k (bs ++ sep ++ cs)
variable {l}
theorem blank1 : blank [32] := fun c h => by simp at h; exact .inl h
theorem blank0 : blank [] := fun c h => by cases h
theorem Sg.lt {i j : Nat} {bs : Bs} (h : Sg l i j bs) : i < j ∧ j ≤ l.length := by
  induction h with
  | one i h => omega
  | two _ _ _ _ i1 i2 => omega
theorem isM_txt {i : Nat} {x : List UInt8} (h : isM l i x = true) : i < l.length ∧ txt l i = x := by
  unfold isM at h
  cases hl : l[i]? with
  | none => rw [hl] at h; cases h
  | some t =>
    rw [hl] at h
    obtain ⟨hi, _⟩ := List.getElem?_eq_some_iff.1 hl
    refine ⟨hi, ?_⟩
    unfold txt textAt
    rw [hl]
    simp only [Bool.and_eq_true, beq_iff_eq] at h
    exact h.2
theorem Sg.tok {i : Nat} {x : List UInt8} (h : isM l i x = true) : Sg l i (i + 1) x := by
  obtain ⟨h1, h2⟩ := isM_txt h
  rw [← h2]; exact .one i h1
/-- A sign right behind. -/
theorem Sg.sgn {i j : Nat} {bs : Bs} {x : List UInt8} (h1 : Sg l i j bs) (h : isM l j x = true) (hx : soft x = true) : Sg l i (j + 1) (bs ++ x) := by
  have := h1.two (.tok h) blank0 (.inr (.inl (by rw [(isM_txt h).2]; exact hx)))
  simpa using this
/-- Behind a blank. -/
theorem Sg.far {i j k : Nat} {bs cs : Bs} (h1 : Sg l i j bs) (h2 : Sg l j k cs) : Sg l i k (bs ++ [32] ++ cs) := h1.two h2 blank1 (.inl (by simp))
/-- Right behind a sign. -/
theorem Sg.hrd {i j k : Nat} {bs cs : Bs} (h1 : Sg l i j bs) (h2 : Sg l j k cs) {x : List UInt8} (h : isM l (j - 1) x = true) (hx : hard x = true) : Sg l i k (bs ++ cs) := by
  have := h1.two h2 blank0 (.inr (.inr (by rw [(isM_txt h).2]; exact hx)))
  simpa using this
/-- Right ahead of a sign. -/
theorem Sg.sft {i j k : Nat} {bs cs : Bs} (h1 : Sg l i j bs) (h2 : Sg l j k cs) {x : List UInt8} (h : isM l j x = true) (hx : soft x = true) : Sg l i k (bs ++ cs) := by
  have := h1.two h2 blank0 (.inr (.inl (by rw [(isM_txt h).2]; exact hx)))
  simpa using this
end Ps
end Go.Proofs.YtifkjngclkklfaaGreatDoor
/- Mathematics: a text that is cut behind a token has the tokens up to there. -/
namespace Go.Proofs.YtifkjngclkklfaaGreatDoor
open Go.RowKit

theorem runM_take (st go : Bool → Int → Bool) : ∀ (c : Bool) (l : List UInt8) (m : Nat), runM st go c (l.take m) = min (runM st go c l) m
  | c, [], m => by simp [runM]
  | c, b :: t, 0 => by simp [runM]
  | c, b :: t, m + 1 => by
    rw [List.take_succ_cons]
    have ih := runM_take st go (st c b.toNat) t m
    cases hg : go c b.toNat
    · rw [runM_stop hg, runM_stop hg]; simp
    · rw [runM_go hg, runM_go hg, ih]; omega
theorem runM_all (st : Bool → Int → Bool) (p : Int → Bool) : ∀ (c : Bool) (l : List UInt8) (i : Nat), i < runM st (fun _ n => p n) c l → p (l.getD i 0).toNat = true
  | c, [], i, h => by simp [runM] at h
  | c, b :: t, i, h => by
    cases hg : p b.toNat
    · rw [runM_stop (go := fun _ n => p n) hg] at h; omega
    · cases i with
      | zero => exact hg
      | succ j =>
        rw [runM_go (go := fun _ n => p n) hg] at h
        exact runM_all st p (st c b.toNat) t j (by omega)
theorem wd_low {n : Int} (h : wdN n = true) : n < 128 := by
  unfold wdN letN digN at h
  simp at h
  omega
theorem wLen_low (l : List UInt8) (i : Nat) (h : i < wLen l) : (l.getD i 0).toNat < 128 := by
  have := wd_low (runM_all wSt wdN false l i h)
  omega
theorem getD_take (l : List UInt8) (m i : Nat) (h : i < m) : (l.take m).getD i 0 = l.getD i 0 := by
  simp only [List.getD_eq_getElem?_getD, List.getElem?_take, if_pos h]
theorem take_take' (l : List UInt8) (n m : Nat) (h : n ≤ m) : (l.take m).take n = l.take n := by
  rw [List.take_take, Nat.min_eq_left h]
theorem prefix_take {l p : List UInt8} {m : Nat} (h : Lib.hasPrefix (l.take m) p = true) : Lib.hasPrefix l p = true := by
  unfold Lib.hasPrefix at h ⊢
  rw [List.isPrefixOf_iff_prefix] at h ⊢
  exact h.trans (List.take_prefix m l)
theorem prefix_take2 {l p : List UInt8} {m : Nat} (h : Lib.hasPrefix l p = true) (hm : p.length ≤ m) : Lib.hasPrefix (l.take m) p = true := by
  unfold Lib.hasPrefix at h ⊢
  rw [List.isPrefixOf_iff_prefix] at h ⊢
  exact List.prefix_take_iff.2 ⟨h, hm⟩
/-- A token of a text is that of what stands up to a place behind it. -/
theorem first_take (l : List UInt8) (m : Nat) (he : (firstL l).2.2 = 0) (hk : (firstL l).1 ≠ 0) (hn : (firstL l).2.1 ≤ m) (hm : m ≤ l.length) : firstL (l.take m) = firstL l := by
  have hne : l ≠ [] := fun e => hk ((first_kind l he).1.2 e)
  have hn0 : (firstL l).2.1 ≠ 0 := fun e => hne ((first_kind l he).2.1 e)
  have hg : (l.take m).getD 0 0 = l.getD 0 0 := getD_take l m 0 (by omega)
  have hne2 : l.take m ≠ [] := by
    intro e
    have := congrArg List.length e
    rw [List.length_take] at this
    simp at this
    rcases this with h | h
    · omega
    · exact hne h
  have hw : wLen (l.take m) = min (wLen l) m := runM_take _ _ _ _ _
  unfold firstL at he hk hn ⊢
  rw [if_neg hne] at he hk hn ⊢
  rw [if_neg hne2, hg]
  by_cases h1 : letN (l.getD 0 0).toNat = true
  · rw [if_pos h1] at he hk hn ⊢
    rw [if_pos h1]
    have hle : wLen l ≤ m := by
      unfold wordL at hn he
      split at hn
      · exact hn
      · rename_i h
        rw [if_neg h] at he
        split at hn
        · rename_i h'; rw [if_pos h'] at he; cases he
        · exact hn
    unfold wordL
    rw [hw, Nat.min_eq_left hle, take_take' l _ _ hle]
  rw [if_neg h1] at he hk hn ⊢
  rw [if_neg h1]
  by_cases h2 : digN (l.getD 0 0).toNat = true
  · rw [if_pos h2] at he hk hn ⊢
    rw [if_pos h2]
    have hle : wLen l ≤ m := by
      unfold numL at hn he
      split at hn
      · exact hn
      · rename_i h
        rw [if_neg h] at he
        cases he
    unfold numL
    rw [hw, Nat.min_eq_left hle, take_take' l _ _ hle]
  rw [if_neg h2] at he hk hn ⊢
  rw [if_neg h2]
  by_cases h3 : (l.getD 0 0).toNat = 34
  · rw [if_pos h3] at he hk hn ⊢
    rw [if_pos h3]
    have hle : qLong l ≤ m := by
      unfold quotL at hn he
      split at hn
      · exact hn
      · rename_i h
        rw [if_neg h] at he
        cases he
    have hq : qLong (l.take m) = qLong l := by
      unfold qLong at hle ⊢
      have hd : (l.take m).drop 1 = (l.drop 1).take (m - 1) := List.drop_take
      have hr : qLen ((l.drop 1).take (m - 1)) = min (qLen (l.drop 1)) (m - 1) := runM_take _ _ _ _ _
      rw [hd, hr, List.length_take]
      have : 0 < l.length := List.length_pos_iff.2 hne
      omega
    unfold quotL
    rw [hq, take_take' l _ _ hle]
  rw [if_neg h3] at he hk hn ⊢
  rw [if_neg h3]
  unfold signL at he hk hn ⊢
  rw [hg]
  by_cases h4 : Lib.hasPrefix l [61, 61] = true
  · rw [if_pos h4] at he hk hn ⊢
    rw [if_pos (prefix_take2 h4 hn)]
  · rw [if_neg h4]
    rw [if_neg (fun h => h4 (prefix_take h))]
/-- A token's last byte is below 128. -/
theorem first_low (l : List UInt8) (he : (firstL l).2.2 = 0) (hk : (firstL l).1 ≠ 0) : (l.getD ((firstL l).2.1 - 1) 0).toNat < 128 := by
  have hne : l ≠ [] := fun e => hk ((first_kind l he).1.2 e)
  have hn0 : (firstL l).2.1 ≠ 0 := fun e => hne ((first_kind l he).2.1 e)
  unfold firstL at he hk hn0 ⊢
  rw [if_neg hne] at he hk hn0 ⊢
  by_cases h1 : letN (l.getD 0 0).toNat = true
  · rw [if_pos h1] at he hk hn0 ⊢
    have e : (wordL l).2.1 = wLen l := by
      unfold wordL at he ⊢
      split
      · rfl
      · rename_i h
        rw [if_neg h] at he
        split
        · rename_i h'; rw [if_pos h'] at he; cases he
        · rfl
    rw [e] at hn0 ⊢
    exact wLen_low l _ (by omega)
  rw [if_neg h1] at he hk hn0 ⊢
  by_cases h2 : digN (l.getD 0 0).toNat = true
  · rw [if_pos h2] at he hk hn0 ⊢
    have e : (numL l).2.1 = wLen l := by
      unfold numL at he ⊢
      split
      · rfl
      · rename_i h
        rw [if_neg h] at he
        cases he
    rw [e] at hn0 ⊢
    exact wLen_low l _ (by omega)
  rw [if_neg h2] at he hk hn0 ⊢
  by_cases h3 : (l.getD 0 0).toNat = 34
  · rw [if_pos h3] at he hk hn0 ⊢
    unfold quotL at he hn0 ⊢
    by_cases h : (unq (l.take (qLong l))).isSome = true
    · rw [if_pos h] at hn0 ⊢
      have hle : qLong l ≤ l.length := Nat.min_le_right _ _
      unfold unq at h
      rw [List.length_take, Nat.min_eq_left hle] at h
      by_cases hb : qLong l < 2 ∨ (l.take (qLong l)).getD 0 0 ≠ 34 ∨ (l.take (qLong l)).getD (qLong l - 1) 0 ≠ 34
      · rw [if_pos hb] at h; cases h
      · have h34 : (l.take (qLong l)).getD (qLong l - 1) 0 = 34 := by
          by_cases hx : (l.take (qLong l)).getD (qLong l - 1) 0 = 34
          · exact hx
          · exact absurd (.inr (.inr hx)) hb
        rw [getD_take l _ _ (by simp only at hn0; omega)] at h34
        show (l.getD (qLong l - 1) 0).toNat < 128
        rw [h34]
        decide
    · rw [if_neg h] at he; cases he
  rw [if_neg h3] at he hk hn0 ⊢
  unfold signL at he hn0 ⊢
  by_cases h4 : Lib.hasPrefix l [61, 61] = true
  · rw [if_pos h4]
    unfold Lib.hasPrefix at h4
    rw [List.isPrefixOf_iff_prefix] at h4
    obtain ⟨t, rfl⟩ := h4
    show (61 : UInt8).toNat < 128
    decide
  · rw [if_neg h4] at he ⊢
    by_cases h5 : 0 ≤ Lib.indexByte signs (l.getD 0 0)
    · rw [if_pos h5]
      obtain ⟨o, ho⟩ := Int.eq_ofNat_of_zero_le h5
      have := (Lib.indexByte_some ho).1
      have hm := List.mem_of_getElem? this
      show (l.getD 0 0).toNat < 128
      have hall : ∀ x ∈ signs, x.toNat < 128 := by decide
      exact hall _ hm
    · rw [if_neg h5] at he; cases he
/-- Behind a byte below 128 one may cut. -/
theorem cut_low (l : List UInt8) (hg : badAt l = none) (k : Nat) (h : k < l.length) (hb : (l.getD k 0).toNat < 128) : badAt (l.take (k + 1)) = none := by
  have h1 := (cut_ok l hg k (by omega) (fun _ => by omega)).1
  rw [List.take_succ_eq_append_getElem h]
  refine good_app h1 (ascii_good _ fun b hb' => ?_)
  simp only [List.mem_singleton] at hb'
  subst hb'
  have e : l.getD k 0 = l[k] := by simp [List.getD_eq_getElem?_getD, h]
  rw [e] at hb
  exact hb
theorem lLen_take (l : List UInt8) (m : Nat) : lLen (l.take m) = min (lLen l) m := runM_take _ _ _ _ _
/-- Where a text is cut: what stands from a place on. -/
theorem tl_cut {s s' : ByteArray} {E : Nat} (h : s'.data.toList = s.data.toList.take E) (k : Nat) : tl s' k = (tl s k).take (E - k) := by
  unfold tl
  rw [h, List.drop_take]
theorem size_cut {s s' : ByteArray} {E : Nat} (h : s'.data.toList = s.data.toList.take E) (hE : E ≤ s.size) : s'.size = E := by
  have := congrArg List.length h
  rw [List.length_take] at this
  simp only [Array.length_toList, ByteArray.size_data] at this
  omega
theorem ext_cut {s s' : ByteArray} {E : Nat} (h : s'.data.toList = s.data.toList.take E) (a b : Nat) (hb : b ≤ E) : s'.extract a b = s.extract a b := by
  apply ByteArray.ext
  apply Array.ext'
  rw [ByteArray.data_extract, ByteArray.data_extract, Array.toList_extract, Array.toList_extract, List.extract_eq_take_drop, List.extract_eq_take_drop, h, List.drop_take, List.take_take]
  congr 1
  omega
/-- A token that ends ahead of the cut is the same one. -/
theorem tok_cut {s s' : ByteArray} {E : Nat} (h : s'.data.toList = s.data.toList.take E) (k : Nat) (hk : k ≤ s.size) (he : errK s k = 0) (hkd : (tokK s k).kind ≠ 0) (hE : endK s k ≤ E) (hEs : E ≤ s.size) :
    errK s' k = 0 ∧ tokK s' k = tokK s k ∧ endK s' k = endK s k := by
  have ha := atK_le s k hk
  have hpos := tok_pos s k he hkd
  have e1 : atK s' k = atK s k := by
    unfold atK at hpos ⊢
    rw [tl_cut h, lLen_take]
    unfold atK at ha
    have : lLen (tl s k) ≤ E - k := by omega
    omega
  have e2 : firstL (tl s' (atK s k)) = firstL (tl s (atK s k)) := by
    rw [tl_cut h]
    refine first_take _ _ he hkd ?_ (by rw [tl_len]; omega)
    unfold endK at hE
    omega
  refine ⟨?_, ?_, ?_⟩
  · unfold errK at he ⊢
    rw [e1, e2]
    exact he
  · unfold tokK
    rw [e1, e2]
    unfold endK at hE
    rw [ext_cut h _ _ (by omega), ext_cut h _ _ hE]
  · unfold endK
    rw [e1, e2]
def endT (E : Nat) : Tok := ⟨0, E, ⟨#[]⟩, ⟨#[]⟩⟩
theorem ext_none (s : ByteArray) (a : Nat) : s.extract a a = ⟨#[]⟩ := by
  apply ByteArray.ext
  apply Array.ext'
  rw [ByteArray.data_extract, Array.toList_extract, List.extract_eq_take_drop]
  simp
theorem lexF_cut (s : ByteArray) : ∀ (f k n j : Nat) (L : List Tok) (f' : Nat) (s' : ByteArray) (E : Nat), k ≤ s.size → lexF s f k n = .good L → j < L.length → E = k + (jl (L.take j)).length →
    s'.data.toList = s.data.toList.take E → E + 1 ≤ f' + k → lexF s' f' k n = .good (L.take j ++ [endT E])
  | 0, k, n, j, L, f', s', E, hk, h, hj, hE, hs, hf => by simp [lexF] at h
  | f + 1, k, n, j, L, 0, s', E, hk, h, hj, hE, hs, hf => by omega
  | f + 1, k, n, j, L, f' + 1, s', E, hk, h, hj, hE, hs, hf => by
    obtain ⟨g1, g2, g3⟩ := lexF_good s _ _ _ _ hk h
    have hEs : E ≤ s.size := by
      have e := congrArg List.length g1
      rw [tl_len] at e
      have e2 := congrArg jl (List.take_append_drop j L)
      rw [jl_append] at e2
      rw [← e2, List.length_append] at e
      omega
    by_cases he : errK s k = 0
    · by_cases hn : n = 4000
      · subst hn; rw [lexF_many he] at h; cases h
      · cases j with
        | zero =>
          have hEk : E = k := by simpa [jl] using hE
          subst hEk
          have t0 : tl s' E = [] := by rw [tl_cut hs]; simp
          have a0 : atK s' E = E := by unfold atK; rw [t0]; rfl
          have f0 : firstL (tl s' (atK s' E)) = (0, 0, 0) := by rw [a0, t0]; rfl
          have h1 : errK s' E = 0 := by unfold errK; rw [f0]
          have h2 : tokK s' E = endT E := by
            unfold tokK endT
            rw [f0, a0]
            simp only [Nat.add_zero, ext_none]
          rw [lexF_end h1 hn (by rw [h2]; rfl), h2]
          rfl
        | succ j =>
          by_cases h0 : (tokK s k).kind = 0
          · rw [lexF_end he hn h0] at h
            cases h
            simp at hj
          · rw [lexF_next he hn h0] at h
            cases hr : lexF s f (endK s k) (n + 1) with
            | bad e a => rw [hr] at h; cases h
            | good l' =>
              rw [hr] at h
              cases h
              simp only [List.cons_append, List.nil_append, List.length_cons, List.take_succ_cons] at hj hE ⊢
              have hts := tok_size s k hk
              have htl := tok_lead s k hk
              have hEE : E = endK s k + (jl (l'.take j)).length := by
                rw [hE]
                have : (jl (tokK s k :: l'.take j)).length = (tokK s k).lead.size + (tokK s k).text.size + (jl (l'.take j)).length := by
                  simp [jl, Nat.add_assoc]
                rw [this]
                omega
              have hpos := tok_pos s k he h0
              have ha := atK_le s k hk
              obtain ⟨c1, c2, c3⟩ := tok_cut hs k hk he h0 (by omega) hEs
              have ih := lexF_cut s f (endK s k) (n + 1) j l' f' s' E (endK_le s k hk).2 hr (by omega) hEE hs (by omega)
              rw [lexF_next c1 hn (by rw [c2]; exact h0), c2, c3, ih]
              rfl
    · rw [lexF_err he] at h; cases h
theorem lexF_low (s : ByteArray) : ∀ (f k n j : Nat) (L : List Tok), k ≤ s.size → lexF s f k n = .good L → j + 1 < L.length →
    1 ≤ k + (jl (L.take (j + 1))).length ∧ (s.data.toList.getD (k + (jl (L.take (j + 1))).length - 1) 0).toNat < 128
  | 0, k, n, j, L, hk, h, hj => by simp [lexF] at h
  | f + 1, k, n, j, L, hk, h, hj => by
    by_cases he : errK s k = 0
    · by_cases hn : n = 4000
      · subst hn; rw [lexF_many he] at h; cases h
      · by_cases h0 : (tokK s k).kind = 0
        · rw [lexF_end he hn h0] at h
          cases h
          simp at hj
        · rw [lexF_next he hn h0] at h
          cases hr : lexF s f (endK s k) (n + 1) with
          | bad e a => rw [hr] at h; cases h
          | good l' =>
            rw [hr] at h
            cases h
            simp only [List.cons_append, List.nil_append, List.length_cons, List.take_succ_cons] at hj ⊢
            have hts := tok_size s k hk
            have htl := tok_lead s k hk
            have hEE : k + (jl (tokK s k :: l'.take j)).length = endK s k + (jl (l'.take j)).length := by
              have : (jl (tokK s k :: l'.take j)).length = (tokK s k).lead.size + (tokK s k).text.size + (jl (l'.take j)).length := by
                simp [jl, Nat.add_assoc]
              rw [this]
              omega
            rw [hEE]
            have hpos := tok_pos s k he h0
            cases j with
            | zero =>
              have hl := first_low _ he h0
              simp only [List.take_zero, jl, List.flatMap_nil, List.length_nil, Nat.add_zero]
              refine ⟨by omega, ?_⟩
              unfold endK at hpos ⊢
              have e : (tl s (atK s k)).getD ((firstL (tl s (atK s k))).2.1 - 1) 0 = s.data.toList.getD (atK s k + (firstL (tl s (atK s k))).2.1 - 1) 0 := by
                unfold tl
                simp only [List.getD_eq_getElem?_getD, List.getElem?_drop]
                rw [show atK s k + ((firstL (List.drop (atK s k) s.data.toList)).2.1 - 1) = atK s k + (firstL (List.drop (atK s k) s.data.toList)).2.1 - 1 by unfold tl at hpos; omega]
              rw [← e]
              exact hl
            | succ j => exact lexF_low s f (endK s k) (n + 1) j l' (endK_le s k hk).2 hr (by omega)
    · rw [lexF_err he] at h; cases h
/-- A text that is cut behind one of its tokens has the tokens up to there, and the end. -/
theorem lexR_cut {s : ByteArray} {L : List Tok} (h : lexR s = .good L) (j : Nat) (hj : j < L.length) {s' : ByteArray} (hs : s'.data.toList = jl (L.take j)) : lexR s' = .good (L.take j ++ [endT (jl (L.take j)).length]) := by
  obtain ⟨⟨g1, _, _⟩, hsz⟩ := lexR_good h
  rw [tl_zero] at g1
  have e2 := congrArg jl (List.take_append_drop j L)
  rw [jl_append, g1] at e2
  have hE : (jl (L.take j)).length ≤ s.size := by
    have := congrArg List.length e2
    rw [List.length_append] at this
    simp only [Array.length_toList, ByteArray.size_data] at this
    omega
  have hs2 : s'.data.toList = s.data.toList.take (jl (L.take j)).length := by
    rw [hs, ← e2, List.take_left']
    rfl
  have hz := size_cut hs2 hE
  unfold lexR at h
  by_cases h1 : s.size > 16384
  · rw [if_pos h1] at h; cases h
  rw [if_neg h1] at h
  by_cases h2 : badAt s.data.toList ≠ none
  · rw [if_pos h2] at h; cases h
  rw [if_neg h2] at h
  have hg : badAt s.data.toList = none := by
    by_cases hx : badAt s.data.toList = none
    · exact hx
    · exact absurd hx h2
  have hg' : badAt s'.data.toList = none := by
    cases j with
    | zero =>
      rw [hs]
      exact bad_nil
    | succ j =>
      obtain ⟨l1, l2⟩ := lexF_low s _ 0 0 j L (by omega) h hj
      rw [Nat.zero_add] at l1 l2
      have := cut_low s.data.toList hg ((jl (L.take (j + 1))).length - 1) (by simp only [Array.length_toList, ByteArray.size_data]; omega) l2
      rw [show (jl (L.take (j + 1))).length - 1 + 1 = (jl (L.take (j + 1))).length by omega] at this
      rw [hs2]
      exact this
  unfold lexR
  rw [if_neg (by omega), if_neg (by simp [hg'])]
  exact lexF_cut s _ 0 0 j L _ s' _ (by omega) h hj (by omega) hs2 (by omega)
end Go.Proofs.YtifkjngclkklfaaGreatDoor
/- Mathematics: a text behind another one, a line feed between, has the tokens of both. -/
namespace Go.Proofs.YtifkjngclkklfaaGreatDoor
open Go.RowKit

theorem runM_app (st go : Bool → Int → Bool) : ∀ (c : Bool) (l m : List UInt8), runM st go c l < l.length → runM st go c (l ++ m) = runM st go c l
  | c, [], m, h => by simp at h
  | c, b :: t, m, h => by
    rw [List.cons_append]
    cases hg : go c b.toNat
    · rw [runM_stop hg, runM_stop hg]
    · rw [runM_go hg] at h ⊢
      rw [runM_go hg, runM_app st go _ t m (by simp at h; omega)]
theorem runM_feed (st go : Bool → Int → Bool) (h10 : ∀ c, go c 10 = false) : ∀ (c : Bool) (l m : List UInt8), runM st go c (l ++ 10 :: m) = runM st go c l
  | c, [], m => by
    rw [List.nil_append, runM_stop (h10 c)]
    rfl
  | c, b :: t, m => by
    rw [List.cons_append]
    cases hg : go c b.toNat
    · rw [runM_stop hg, runM_stop hg]
    · rw [runM_go hg, runM_go hg, runM_feed st go h10]
theorem wLen_feed (l m : List UInt8) : wLen (l ++ 10 :: m) = wLen l := runM_feed _ _ (fun _ => rfl) _ _ _
theorem lead_feed : ∀ (c : Bool) (l m : List UInt8), runM cmt lGo c l = l.length → runM cmt lGo c (l ++ 10 :: m) = l.length + 1 + lLen m
  | c, [], m, _ => by
    rw [List.nil_append, runM_go (go := lGo) (show lGo c (10 : UInt8).toNat = true by cases c <;> rfl), show cmt c ((10 : UInt8).toNat : Int) = false from rfl]
    simp [lLen]
  | c, b :: t, m, h => by
    rw [List.cons_append]
    cases hg : lGo c b.toNat
    · rw [runM_stop hg] at h; simp at h
    · rw [runM_go hg] at h ⊢
      rw [lead_feed _ t m (by simp at h; omega), List.length_cons]
      omega
/-- What is read between quotes has no end of its own within it. -/
theorem um_run : ∀ (W : List UInt8) (c : Bool) (o : List UInt8) (r : List UInt8), um W c = some o → runM sls qGo c (W ++ 34 :: r) = W.length
  | [], true, o, r, h => by simp [um] at h
  | [], false, o, r, h => by
    rw [List.nil_append, runM_stop (show qGo false (34 : UInt8).toNat = false from rfl)]
    rfl
  | b :: t, true, o, r, h => by
    unfold um at h
    split at h
    · cases hu : um t false with
      | none => rw [hu] at h; cases h
      | some o' =>
        rw [List.cons_append, runM_go (show qGo true b.toNat = true by simp [qGo]), show sls true (b.toNat : Int) = false by simp [sls], um_run t false o' r hu, List.length_cons]
        omega
    · cases h
  | b :: t, false, o, r, h => by
    unfold um at h
    split at h
    · rename_i hb
      subst hb
      rw [List.cons_append, runM_go (show qGo false (92 : UInt8).toNat = true from rfl), show sls false ((92 : UInt8).toNat : Int) = true from rfl, um_run t true o r h, List.length_cons]
      omega
    · rename_i hb
      split at h
      · cases h
      · rename_i hb2
        cases hu : um t false with
        | none => rw [hu] at h; cases h
        | some o' =>
          have n34 : (b.toNat : Int) ≠ 34 := fun e => hb2 (.inr (UInt8.toNat_inj.1 (by simpa using (by omega : b.toNat = 34))))
          have n92 : (b.toNat : Int) ≠ 92 := fun e => hb (UInt8.toNat_inj.1 (by simpa using (by omega : b.toNat = 92)))
          rw [List.cons_append, runM_go (show qGo false b.toNat = true by simp only [qGo, Bool.or_false, decide_eq_true_eq]; exact n34), show sls false (b.toNat : Int) = false by simp only [sls, Bool.not_false, Bool.and_true, decide_eq_false_iff_not]; exact n92, um_run t false o' r hu, List.length_cons]
          omega
theorem quot_parts (l : List UInt8) (n : Nat) (hn : n ≤ l.length) (h : (unq (l.take n)).isSome = true) : 2 ≤ n ∧ ∃ M r, l = 34 :: (M ++ 34 :: r) ∧ M.length + 2 = n ∧ (um M false).isSome = true := by
  unfold unq at h
  rw [List.length_take, Nat.min_eq_left hn] at h
  by_cases hb : n < 2 ∨ (l.take n).getD 0 0 ≠ 34 ∨ (l.take n).getD (n - 1) 0 ≠ 34
  · rw [if_pos hb] at h; cases h
  · rw [if_neg hb] at h
    simp only [not_or, Decidable.not_not] at hb
    obtain ⟨h2, ha, hz⟩ := hb
    refine ⟨by omega, (l.drop 1).take (n - 2), l.drop n, ?_, by simp; omega, ?_⟩
    · rw [getD_take l _ _ (by omega)] at ha hz
      have e1 : l = l.take 1 ++ l.drop 1 := (List.take_append_drop 1 l).symm
      have e0 : l.take 1 = [34] := by
        cases l with
        | nil => simp at hn; omega
        | cons x y => simp at ha ⊢; exact ha
      have e2 : l.drop 1 = (l.drop 1).take (n - 2) ++ (l.drop 1).drop (n - 2) := (List.take_append_drop _ _).symm
      have e3 : (l.drop 1).drop (n - 2) = l.drop (n - 1) := by rw [List.drop_drop]; congr 1; omega
      have e4 : l.drop (n - 1) = 34 :: l.drop n := by
        rw [List.drop_eq_getElem_cons (by omega)]
        congr 1
        · simpa [List.getD_eq_getElem?_getD, List.getElem?_eq_getElem (show n - 1 < l.length by omega)] using hz
        · congr 1; omega
      rw [e3, e4] at e2
      conv => lhs; rw [e1, e0, e2]
      rfl
    · have : (l.take n).drop 1 = (l.drop 1).take (n - 1) := List.drop_take
      rw [this, List.take_take, Nat.min_eq_left (by omega)] at h
      exact h
/-- A token is the same one where a line feed and more stand behind the text. -/
theorem first_feed (l m : List UInt8) (he : (firstL l).2.2 = 0) (hk : (firstL l).1 ≠ 0) : firstL (l ++ 10 :: m) = firstL l := by
  have hne : l ≠ [] := fun e => hk ((first_kind l he).1.2 e)
  have hl0 : 0 < l.length := List.length_pos_iff.2 hne
  have hg : (l ++ 10 :: m).getD 0 0 = l.getD 0 0 := by
    simp only [List.getD_eq_getElem?_getD, List.getElem?_append_left hl0]
  have hne2 : l ++ 10 :: m ≠ [] := by simp
  have hw : wLen l ≤ l.length := runM_le _ _ _ _
  unfold firstL at he hk ⊢
  rw [if_neg hne] at he hk ⊢
  rw [if_neg hne2, hg]
  by_cases h1 : letN (l.getD 0 0).toNat = true
  · rw [if_pos h1, if_pos h1]
    unfold wordL
    rw [wLen_feed, List.take_append_of_le_length hw]
  rw [if_neg h1] at he hk ⊢
  rw [if_neg h1]
  by_cases h2 : digN (l.getD 0 0).toNat = true
  · rw [if_pos h2, if_pos h2]
    unfold numL
    rw [wLen_feed, List.take_append_of_le_length hw]
  rw [if_neg h2] at he hk ⊢
  rw [if_neg h2]
  by_cases h3 : (l.getD 0 0).toNat = 34
  · rw [if_pos h3] at he hk ⊢
    rw [if_pos h3]
    have hu : (unq (l.take (qLong l))).isSome = true := by
      unfold quotL at he
      split at he
      · assumption
      · cases he
    have hle : qLong l ≤ l.length := Nat.min_le_right _ _
    obtain ⟨h2n, M, r, hl, hM, hum⟩ := quot_parts l _ hle hu
    obtain ⟨o, ho⟩ := Option.isSome_iff_exists.1 hum
    have hq : qLong (l ++ 10 :: m) = qLong l := by
      have hd : (l ++ 10 :: m).drop 1 = M ++ 34 :: (r ++ 10 :: m) := by rw [hl]; simp
      have hr : qLen (M ++ 34 :: (r ++ 10 :: m)) = M.length := um_run M false o _ ho
      unfold qLong
      rw [hd, hr]
      unfold qLong at hM hle
      rw [List.length_append]
      have : 0 < l.length := hl0
      unfold qLong at h2n
      omega
    unfold quotL
    rw [hq, List.take_append_of_le_length hle]
  rw [if_neg h3] at he hk ⊢
  rw [if_neg h3]
  unfold signL
  rw [hg]
  have hp : Lib.hasPrefix (l ++ 10 :: m) [61, 61] = Lib.hasPrefix l [61, 61] := by
    unfold Lib.hasPrefix
    match l, hne with
    | [a], _ => simp [List.isPrefixOf]
    | a :: b :: t, _ => simp [List.isPrefixOf]
  rw [hp]
end Go.Proofs.YtifkjngclkklfaaGreatDoor
/- Mathematics: a text behind another one, a line feed between: what lexing it comes to. -/
namespace Go.Proofs.YtifkjngclkklfaaGreatDoor
open Go.RowKit

/-- A token's kind and text. -/
def kt (t : Tok) : Nat × ByteArray := (t.kind, t.text)
section
variable {s t u : ByteArray} (hu : u.data.toList = s.data.toList ++ 10 :: t.data.toList)
include hu
theorem ag_size : u.size = s.size + 1 + t.size := by
  have := congrArg List.length hu
  simp only [List.length_append, List.length_cons, Array.length_toList, ByteArray.size_data] at this
  omega
theorem ag_fore (k : Nat) (hk : k ≤ s.size) : tl u k = tl s k ++ 10 :: t.data.toList := by
  unfold tl
  rw [hu, List.drop_append_of_le_length (by simpa using hk)]
theorem ag_rear (j : Nat) : tl u (s.size + 1 + j) = tl t j := by
  unfold tl
  rw [hu, List.drop_append, List.drop_eq_nil_of_le (by simp; omega), List.nil_append]
  have : s.size + 1 + j - s.data.toList.length = j + 1 := by simp; omega
  rw [this]
  rfl
theorem ag_ext (a n : Nat) : u.extract (s.size + 1 + a) (s.size + 1 + a + n) = t.extract a (a + n) := by
  apply ByteArray.ext
  apply Array.ext'
  have e := ag_rear hu a
  unfold tl at e
  rw [ByteArray.data_extract, ByteArray.data_extract, Array.toList_extract, Array.toList_extract, List.extract_eq_take_drop, List.extract_eq_take_drop, e]
  congr 1
  omega
theorem ag_ext0 (a b : Nat) (hb : b ≤ s.size) : u.extract a b = s.extract a b := by
  apply ByteArray.ext
  apply Array.ext'
  rw [ByteArray.data_extract, ByteArray.data_extract, Array.toList_extract, Array.toList_extract, List.extract_eq_take_drop, List.extract_eq_take_drop, hu]
  by_cases h : a ≤ b
  · rw [List.drop_append_of_le_length (by simp; omega), List.take_append_of_le_length (by simp; omega)]
  · rw [show b - a = 0 by omega]
    simp
/-- Where a token of the text behind is read: it is that of the text behind. -/
theorem ag_tok (k j : Nat) (h : atK u k = s.size + 1 + atK t j) : errK u k = errK t j ∧ (tokK u k).kind = (tokK t j).kind ∧ kt (tokK u k) = kt (tokK t j) ∧ endK u k = s.size + 1 + endK t j := by
  have e : tl u (atK u k) = tl t (atK t j) := by rw [h, ag_rear hu]
  have h1 : (tokK u k).kind = (tokK t j).kind := by unfold tokK; rw [e]
  refine ⟨by unfold errK; rw [e], h1, ?_, by unfold endK; rw [e, h]; omega⟩
  unfold kt
  rw [h1]
  congr 1
  unfold tokK
  rw [e, h]
  exact ag_ext hu _ _
theorem ag_behind : ∀ (f j k n n' : Nat) (B : List Tok) (f' : Nat), atK u k = s.size + 1 + atK t j → lexF t f j n' = .good B → n + B.length ≤ 4000 → f ≤ f' → ∃ C, lexF u f' k n = .good C ∧ C.map kt = B.map kt
  | 0, j, k, n, n', B, f', h, hB, hn, hf => by simp [lexF] at hB
  | f + 1, j, k, n, n', B, 0, h, hB, hn, hf => by omega
  | f + 1, j, k, n, n', B, f' + 1, h, hB, hn, hf => by
    obtain ⟨e1, e2, e3, e4⟩ := ag_tok hu k j h
    by_cases he : errK t j = 0
    · by_cases hn4 : n' = 4000
      · subst hn4; rw [lexF_many he] at hB; cases hB
      · by_cases h0 : (tokK t j).kind = 0
        · rw [lexF_end he hn4 h0] at hB
          cases hB
          refine ⟨[tokK u k], lexF_end (by rw [e1, he]) (by simp at hn; omega) (by rw [e2, h0]), by simp [e3]⟩
        · rw [lexF_next he hn4 h0] at hB
          cases hr : lexF t f (endK t j) (n' + 1) with
          | bad e a => rw [hr] at hB; cases hB
          | good B' =>
            rw [hr] at hB
            cases hB
            simp only [List.cons_append, List.nil_append, List.length_cons] at hn
            have ha : atK u (endK u k) = s.size + 1 + atK t (endK t j) := by
              unfold atK
              rw [e4, ag_rear hu]
              omega
            obtain ⟨C, hC, hm⟩ := ag_behind f (endK t j) (endK u k) (n + 1) (n' + 1) B' f' ha hr (by omega) (by omega)
            refine ⟨tokK u k :: C, ?_, by simp [e3, hm]⟩
            rw [lexF_next (by rw [e1, he]) (by omega) (by rw [e2]; exact h0), hC]
            rfl
    · rw [lexF_err he] at hB; cases hB
/-- A token of the text ahead is the same one. -/
theorem ag_same (k : Nat) (hk : k ≤ s.size) (he : errK s k = 0) (h0 : (tokK s k).kind ≠ 0) : errK u k = errK s k ∧ tokK u k = tokK s k ∧ endK u k = endK s k := by
  have hpos := tok_pos s k he h0
  have hend := endK_le s k hk
  have ha := atK_le s k hk
  have e1 : atK u k = atK s k := by
    have hl : lLen (tl s k) < (tl s k).length := by
      rw [tl_len]
      unfold atK at hpos hend
      omega
    unfold atK
    rw [ag_fore hu k hk]
    unfold lLen at hl ⊢
    rw [runM_app _ _ _ _ _ hl]
  have e2 : firstL (tl u (atK s k)) = firstL (tl s (atK s k)) := by
    rw [ag_fore hu _ ha.2]
    exact first_feed _ _ he h0
  refine ⟨by unfold errK; rw [e1, e2], ?_, by unfold endK; rw [e1, e2]⟩
  unfold tokK
  rw [e1, e2]
  unfold endK at hend
  rw [ag_ext0 hu _ _ (by omega), ag_ext0 hu _ _ hend.2]
theorem ag_both (ft : Nat) (B : List Tok) (hB : lexF t ft 0 0 = .good B) : ∀ (f k n n' : Nat) (A : List Tok) (f' : Nat), k ≤ s.size → lexF s f k n' = .good A → n + A.length + B.length ≤ 4001 → s.size + ft ≤ f' + k →
    ∃ C, lexF u f' k n = .good C ∧ C.map kt = (A.dropLast ++ B).map kt
  | 0, k, n, n', A, f', hk, hA, hn, hf => by simp [lexF] at hA
  | f + 1, k, n, n', A, f', hk, hA, hn, hf => by
    have hB0 : 0 < B.length := (lexF_good t ft 0 0 B (by omega) hB).2.1
    have hft : 0 < ft := by
      cases ft with
      | zero => simp [lexF] at hB
      | succ n => omega
    by_cases he : errK s k = 0
    · by_cases hn4 : n' = 4000
      · subst hn4; rw [lexF_many he] at hA; cases hA
      · by_cases h0 : (tokK s k).kind = 0
        · rw [lexF_end he hn4 h0] at hA
          cases hA
          simp only [List.length_cons, List.length_nil] at hn
          have hall : atK s k = s.size := by
            have h1 := (first_kind (tl s (atK s k)) he).1.1 h0
            have h2 := tl_len s (atK s k)
            rw [h1] at h2
            have h3 := (atK_le s k hk).2
            simp at h2
            omega
          have ha : atK u k = s.size + 1 + atK t 0 := by
            have hl : lLen (tl s k) = (tl s k).length := by
              rw [tl_len]
              unfold atK at hall
              omega
            unfold atK
            rw [ag_fore hu k hk]
            have := lead_feed false (tl s k) t.data.toList hl
            unfold lLen at this ⊢
            rw [this, tl_len, tl_zero]
            omega
          obtain ⟨C, hC, hm⟩ := ag_behind hu ft 0 k n 0 B f' ha hB (by omega) (by omega)
          exact ⟨C, hC, by simpa using hm⟩
        · rw [lexF_next he hn4 h0] at hA
          cases hr : lexF s f (endK s k) (n' + 1) with
          | bad e a => rw [hr] at hA; cases hA
          | good A' =>
            rw [hr] at hA
            cases hA
            simp only [List.cons_append, List.nil_append, List.length_cons] at hn ⊢
            obtain ⟨e1, e2, e3⟩ := ag_same hu k hk he h0
            have hpos := tok_pos s k he h0
            have hend := endK_le s k hk
            have ha := atK_le s k hk
            have hA0 : 0 < A'.length := (lexF_good s f _ _ A' hend.2 hr).2.1
            cases f' with
            | zero => omega
            | succ f' =>
              obtain ⟨C, hC, hm⟩ := ag_both ft B hB f (endK s k) (n + 1) (n' + 1) A' f' hend.2 hr (by omega) (by omega)
              refine ⟨tokK s k :: C, ?_, ?_⟩
              · rw [lexF_next (by rw [e1, he]) (by omega) (by rw [e2]; exact h0), e2, e3, hC]
                rfl
              · rw [List.dropLast_cons_of_ne_nil (List.length_pos_iff.1 hA0)]
                simp [hm]
    · rw [lexF_err he] at hA; cases hA
theorem ag_lex {A B : List Tok} (hA : lexR s = .good A) (hB : lexR t = .good B) (h1 : s.size + t.size < 16384) (h2 : A.length + B.length ≤ 4000) : ∃ C, lexR u = .good C ∧ C.map kt = (A.dropLast ++ B).map kt := by
  have hsz := ag_size hu
  have key : ∀ {x : ByteArray} {L : List Tok}, lexR x = .good L → badAt x.data.toList = none ∧ lexF x (x.size + 1) 0 0 = .good L := by
    intro x L h
    unfold lexR at h
    split at h
    · cases h
    · by_cases hx : badAt x.data.toList = none
      · rw [if_neg (by simp [hx])] at h
        exact ⟨hx, h⟩
      · rw [if_pos hx] at h; cases h
  obtain ⟨a1, a2⟩ := key hA
  obtain ⟨b1, b2⟩ := key hB
  have hg : badAt u.data.toList = none := by
    rw [hu]
    refine good_app a1 ?_
    exact good_app (l := [10]) (ascii_good _ (by decide)) b1
  obtain ⟨C, hC, hm⟩ := ag_both hu (t.size + 1) B b2 (s.size + 1) 0 0 0 A (u.size + 1) (by omega) a2 (by omega) (by omega)
  refine ⟨C, ?_, hm⟩
  unfold lexR
  rw [if_neg (by omega), if_neg (by simp [hg])]
  exact hC
end
end Go.Proofs.YtifkjngclkklfaaGreatDoor
