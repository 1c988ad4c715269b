/- Mathematics: a text behind another one, a line feed between: what lexing it comes to. -/
import Derived.Test.YthlkjfkgdijfdaaGreatDoorAG
namespace Go.Proofs.YthlkjfkgdijfdaaGreatDoor
open Go.RowKit

/-- A token's kind and text. -/
def kt (t : Tok) : Nat × ByteArray := (t.kind, t.text)
section
variable {s t u : ByteArray} (hu : u.data.toList = s.data.toList ++ 10 :: t.data.toList)
include hu
theorem ag_size : u.size = s.size + 1 + t.size := by
  have := congrArg List.length hu
  simp only [List.length_append, List.length_cons, Array.length_toList, ByteArray.size_data] at this
  omega
theorem ag_fore (k : Nat) (hk : k ≤ s.size) : tl u k = tl s k ++ 10 :: t.data.toList := by
  unfold tl
  rw [hu, List.drop_append_of_le_length (by simpa using hk)]
theorem ag_rear (j : Nat) : tl u (s.size + 1 + j) = tl t j := by
  unfold tl
  rw [hu, List.drop_append, List.drop_eq_nil_of_le (by simp; omega), List.nil_append]
  have : s.size + 1 + j - s.data.toList.length = j + 1 := by simp; omega
  rw [this]
  rfl
theorem ag_ext (a n : Nat) : u.extract (s.size + 1 + a) (s.size + 1 + a + n) = t.extract a (a + n) := by
  apply ByteArray.ext
  apply Array.ext'
  have e := ag_rear hu a
  unfold tl at e
  rw [ByteArray.data_extract, ByteArray.data_extract, Array.toList_extract, Array.toList_extract, List.extract_eq_take_drop, List.extract_eq_take_drop, e]
  congr 1
  omega
theorem ag_ext0 (a b : Nat) (hb : b ≤ s.size) : u.extract a b = s.extract a b := by
  apply ByteArray.ext
  apply Array.ext'
  rw [ByteArray.data_extract, ByteArray.data_extract, Array.toList_extract, Array.toList_extract, List.extract_eq_take_drop, List.extract_eq_take_drop, hu]
  by_cases h : a ≤ b
  · rw [List.drop_append_of_le_length (by simp; omega), List.take_append_of_le_length (by simp; omega)]
  · rw [show b - a = 0 by omega]
    simp
/-- Where a token of the text behind is read: it is that of the text behind. -/
theorem ag_tok (k j : Nat) (h : atK u k = s.size + 1 + atK t j) : errK u k = errK t j ∧ (tokK u k).kind = (tokK t j).kind ∧ kt (tokK u k) = kt (tokK t j) ∧ endK u k = s.size + 1 + endK t j := by
  have e : tl u (atK u k) = tl t (atK t j) := by rw [h, ag_rear hu]
  have h1 : (tokK u k).kind = (tokK t j).kind := by unfold tokK; rw [e]
  refine ⟨by unfold errK; rw [e], h1, ?_, by unfold endK; rw [e, h]; omega⟩
  unfold kt
  rw [h1]
  congr 1
  unfold tokK
  rw [e, h]
  exact ag_ext hu _ _
theorem ag_behind : ∀ (f j k n n' : Nat) (B : List Tok) (f' : Nat), atK u k = s.size + 1 + atK t j → lexF t f j n' = .good B → n + B.length ≤ 4000 → f ≤ f' → ∃ C, lexF u f' k n = .good C ∧ C.map kt = B.map kt
  | 0, j, k, n, n', B, f', h, hB, hn, hf => by simp [lexF] at hB
  | f + 1, j, k, n, n', B, 0, h, hB, hn, hf => by omega
  | f + 1, j, k, n, n', B, f' + 1, h, hB, hn, hf => by
    obtain ⟨e1, e2, e3, e4⟩ := ag_tok hu k j h
    by_cases he : errK t j = 0
    · by_cases hn4 : n' = 4000
      · subst hn4; rw [lexF_many he] at hB; cases hB
      · by_cases h0 : (tokK t j).kind = 0
        · rw [lexF_end he hn4 h0] at hB
          cases hB
          refine ⟨[tokK u k], lexF_end (by rw [e1, he]) (by simp at hn; omega) (by rw [e2, h0]), by simp [e3]⟩
        · rw [lexF_next he hn4 h0] at hB
          cases hr : lexF t f (endK t j) (n' + 1) with
          | bad e a => rw [hr] at hB; cases hB
          | good B' =>
            rw [hr] at hB
            cases hB
            simp only [List.cons_append, List.nil_append, List.length_cons] at hn
            have ha : atK u (endK u k) = s.size + 1 + atK t (endK t j) := by
              unfold atK
              rw [e4, ag_rear hu]
              omega
            obtain ⟨C, hC, hm⟩ := ag_behind f (endK t j) (endK u k) (n + 1) (n' + 1) B' f' ha hr (by omega) (by omega)
            refine ⟨tokK u k :: C, ?_, by simp [e3, hm]⟩
            rw [lexF_next (by rw [e1, he]) (by omega) (by rw [e2]; exact h0), hC]
            rfl
    · rw [lexF_err he] at hB; cases hB
/-- A token of the text ahead is the same one. -/
theorem ag_same (k : Nat) (hk : k ≤ s.size) (he : errK s k = 0) (h0 : (tokK s k).kind ≠ 0) : errK u k = errK s k ∧ tokK u k = tokK s k ∧ endK u k = endK s k := by
  have hpos := tok_pos s k he h0
  have hend := endK_le s k hk
  have ha := atK_le s k hk
  have e1 : atK u k = atK s k := by
    have hl : lLen (tl s k) < (tl s k).length := by
      rw [tl_len]
      unfold atK at hpos hend
      omega
    unfold atK
    rw [ag_fore hu k hk]
    unfold lLen at hl ⊢
    rw [runM_app _ _ _ _ _ hl]
  have e2 : firstL (tl u (atK s k)) = firstL (tl s (atK s k)) := by
    rw [ag_fore hu _ ha.2]
    exact first_feed _ _ he h0
  refine ⟨by unfold errK; rw [e1, e2], ?_, by unfold endK; rw [e1, e2]⟩
  unfold tokK
  rw [e1, e2]
  unfold endK at hend
  rw [ag_ext0 hu _ _ (by omega), ag_ext0 hu _ _ hend.2]
theorem ag_both (ft : Nat) (B : List Tok) (hB : lexF t ft 0 0 = .good B) : ∀ (f k n n' : Nat) (A : List Tok) (f' : Nat), k ≤ s.size → lexF s f k n' = .good A → n + A.length + B.length ≤ 4001 → s.size + ft ≤ f' + k →
    ∃ C, lexF u f' k n = .good C ∧ C.map kt = (A.dropLast ++ B).map kt
  | 0, k, n, n', A, f', hk, hA, hn, hf => by simp [lexF] at hA
  | f + 1, k, n, n', A, f', hk, hA, hn, hf => by
    have hB0 : 0 < B.length := (lexF_good t ft 0 0 B (by omega) hB).2.1
    have hft : 0 < ft := by
      cases ft with
      | zero => simp [lexF] at hB
      | succ n => omega
    by_cases he : errK s k = 0
    · by_cases hn4 : n' = 4000
      · subst hn4; rw [lexF_many he] at hA; cases hA
      · by_cases h0 : (tokK s k).kind = 0
        · rw [lexF_end he hn4 h0] at hA
          cases hA
          simp only [List.length_cons, List.length_nil] at hn
          have hall : atK s k = s.size := by
            have h1 := (first_kind (tl s (atK s k)) he).1.1 h0
            have h2 := tl_len s (atK s k)
            rw [h1] at h2
            have h3 := (atK_le s k hk).2
            simp at h2
            omega
          have ha : atK u k = s.size + 1 + atK t 0 := by
            have hl : lLen (tl s k) = (tl s k).length := by
              rw [tl_len]
              unfold atK at hall
              omega
            unfold atK
            rw [ag_fore hu k hk]
            have := lead_feed false (tl s k) t.data.toList hl
            unfold lLen at this ⊢
            rw [this, tl_len, tl_zero]
            omega
          obtain ⟨C, hC, hm⟩ := ag_behind hu ft 0 k n 0 B f' ha hB (by omega) (by omega)
          exact ⟨C, hC, by simpa using hm⟩
        · rw [lexF_next he hn4 h0] at hA
          cases hr : lexF s f (endK s k) (n' + 1) with
          | bad e a => rw [hr] at hA; cases hA
          | good A' =>
            rw [hr] at hA
            cases hA
            simp only [List.cons_append, List.nil_append, List.length_cons] at hn ⊢
            obtain ⟨e1, e2, e3⟩ := ag_same hu k hk he h0
            have hpos := tok_pos s k he h0
            have hend := endK_le s k hk
            have ha := atK_le s k hk
            have hA0 : 0 < A'.length := (lexF_good s f _ _ A' hend.2 hr).2.1
            cases f' with
            | zero => omega
            | succ f' =>
              obtain ⟨C, hC, hm⟩ := ag_both ft B hB f (endK s k) (n + 1) (n' + 1) A' f' hend.2 hr (by omega) (by omega)
              refine ⟨tokK s k :: C, ?_, ?_⟩
              · rw [lexF_next (by rw [e1, he]) (by omega) (by rw [e2]; exact h0), e2, e3, hC]
                rfl
              · rw [List.dropLast_cons_of_ne_nil (List.length_pos_iff.1 hA0)]
                simp [hm]
    · rw [lexF_err he] at hA; cases hA
theorem ag_lex {A B : List Tok} (hA : lexR s = .good A) (hB : lexR t = .good B) (h1 : s.size + t.size < 16384) (h2 : A.length + B.length ≤ 4000) : ∃ C, lexR u = .good C ∧ C.map kt = (A.dropLast ++ B).map kt := by
  have hsz := ag_size hu
  have key : ∀ {x : ByteArray} {L : List Tok}, lexR x = .good L → badAt x.data.toList = none ∧ lexF x (x.size + 1) 0 0 = .good L := by
    intro x L h
    unfold lexR at h
    split at h
    · cases h
    · by_cases hx : badAt x.data.toList = none
      · rw [if_neg (by simp [hx])] at h
        exact ⟨hx, h⟩
      · rw [if_pos hx] at h; cases h
  obtain ⟨a1, a2⟩ := key hA
  obtain ⟨b1, b2⟩ := key hB
  have hg : badAt u.data.toList = none := by
    rw [hu]
    refine good_app a1 ?_
    exact good_app (l := [10]) (ascii_good _ (by decide)) b1
  obtain ⟨C, hC, hm⟩ := ag_both hu (t.size + 1) B b2 (s.size + 1) 0 0 0 A (u.size + 1) (by omega) a2 (by omega) (by omega)
  refine ⟨C, ?_, hm⟩
  unfold lexR
  rw [if_neg (by omega), if_neg (by simp [hg])]
  exact hC
end
end Go.Proofs.YthlkjfkgdijfdaaGreatDoor
