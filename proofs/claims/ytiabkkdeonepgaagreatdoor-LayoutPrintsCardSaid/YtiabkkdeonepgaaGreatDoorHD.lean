import Derived.Test.YtiabkkdeonepgaaGreatDoorXT
import Derived.Test.YtiabkkdeonepgaaGreatDoorXE
namespace Go.Proofs.YtiabkkdeonepgaaGreatDoor
open Ps
theorem tok_text (s : ByteArray) (k : Nat) : (tokK s k).text.data.toList = (tl s (atK s k)).take (firstL (tl s (atK s k))).2.1 := by
  unfold tokK tl
  dsimp only
  rw [ByteArray.data_extract, Array.toList_extract, List.extract_eq_take_drop]
  congr 1
  omega
theorem lexF_mem (s : ByteArray) : ∀ (f k n : Nat) (l : List Tok), lexF s f k n = .good l → ∀ t ∈ l, ∃ k, t = tokK s k ∧ errK s k = 0
  | 0, k, n, l, h => by simp [lexF] at h
  | f + 1, k, n, l, h => by
    by_cases he : errK s k = 0
    · by_cases hn : n = 4000
      · subst hn; rw [lexF_many he] at h; cases h
      · by_cases h0 : (tokK s k).kind = 0
        · rw [lexF_end he hn h0] at h
          cases h
          exact fun t ht => ⟨k, by simpa using ht, he⟩
        · rw [lexF_next he hn h0] at h
          cases hr : lexF s f (endK s k) (n + 1) with
          | bad e a => rw [hr] at h; cases h
          | good B =>
            rw [hr] at h
            cases h
            have h2 := lexF_mem s f _ _ B hr
            intro t ht
            rcases List.mem_cons.1 ht with rfl | ht
            · exact ⟨k, rfl, he⟩
            · exact h2 t ht
    · rw [lexF_err he] at h; cases h
theorem lexF_len (s : ByteArray) : ∀ (f k n : Nat) (l : List Tok), n ≤ 4000 → lexF s f k n = .good l → n + l.length ≤ 4000
  | 0, k, n, l, _, h => by simp [lexF] at h
  | f + 1, k, n, l, hn0, h => by
    by_cases he : errK s k = 0
    · by_cases hn : n = 4000
      · subst hn; rw [lexF_many he] at h; cases h
      · by_cases h0 : (tokK s k).kind = 0
        · rw [lexF_end he hn h0] at h
          cases h
          simp only [List.length_cons, List.length_nil]
          omega
        · rw [lexF_next he hn h0] at h
          cases hr : lexF s f (endK s k) (n + 1) with
          | bad e a => rw [hr] at h; cases h
          | good B =>
            rw [hr] at h
            cases h
            have := lexF_len s f _ _ B (by omega) hr
            simp only [List.cons_append, List.nil_append, List.length_cons]
            omega
    · rw [lexF_err he] at h; cases h
theorem lexR_len {s : ByteArray} {l : List Tok} (h : lexR s = .good l) : l.length ≤ 4000 := by
  unfold lexR at h
  split at h
  · cases h
  · split at h
    · cases h
    · have := lexF_len s _ _ _ _ (by omega) h
      omega
theorem lits_parts : ∀ x ∈ lits, x ≠ [] ∧ digN (x.getD 0 0).toNat = false ∧ (x.getD 0 0).toNat ≠ 34 ∧ (letN (x.getD 0 0).toNat = true → x ∈ keys) := by decide
theorem tok_lits {s : ByteArray} {k : Nat} (he : errK s k = 0) (h0 : (tokK s k).kind ≠ 0) (h2 : (tokK s k).kind ≠ 2) (h5 : (tokK s k).kind ≠ 5) : ∀ x ∈ lits, (tokK s k).text.data.toList ≠ x := by
  intro x hx e
  obtain ⟨p1, p2, p3, p4⟩ := lits_parts x hx
  rw [tok_text] at e
  have hk : (tokK s k).kind = (firstL (tl s (atK s k))).1 := rfl
  rw [hk] at h0 h2 h5
  unfold errK at he
  generalize tl s (atK s k) = l at *
  have hl : l ≠ [] := by
    rintro rfl
    exact h0 rfl
  have hd : x.getD 0 0 = l.getD 0 0 := by
    cases l with
    | nil => exact absurd rfl hl
    | cons b t =>
      cases hn : (firstL (b :: t)).2.1 with
      | zero => rw [hn, List.take_zero] at e; exact absurd e.symm p1
      | succ n => rw [hn, List.take_succ_cons] at e; rw [← e]; rfl
  rw [hd] at p2 p3 p4
  unfold firstL at h0 h2 h5 he e
  rw [if_neg hl] at h0 h2 h5 he e
  by_cases hlet : letN (l.getD 0 0).toNat = true
  · rw [if_pos hlet] at h0 h2 h5 he e
    unfold wordL at h0 h2 h5 he e
    by_cases hkey : keyL (l.take (wLen l)) = true
    · rw [if_pos hkey] at h2; exact h2 rfl
    · rw [if_neg hkey] at h0 e he
      split at e
      · rename_i hw; rw [if_pos hw] at h0; exact h0 rfl
      · have hm := p4 hlet
        dsimp only at e
        rw [← e] at hm
        exact hkey (by unfold keyL; simpa using hm)
  · rw [if_neg hlet] at h0 h2 h5 he e
    by_cases hdig : digN (l.getD 0 0).toNat = true
    · rw [hdig] at p2; cases p2
    · rw [if_neg hdig] at h0 h2 h5 he e
      by_cases hq : (l.getD 0 0).toNat = 34
      · exact p3 hq
      · rw [if_neg hq] at h0 h5
        unfold signL at h0 h5
        split at h5
        · exact h5 rfl
        · rename_i hp
          rw [if_neg hp] at h0
          split at h5
          · exact h5 rfl
          · rename_i hi
            rw [if_neg hi] at h0
            exact h0 rfl
theorem lexR_wf {s : ByteArray} {l : List Tok} (h : lexR s = .good l) (hle : l.length ≤ 4000) : Wf2 l := by
  have hg := (lexR_good h).1
  obtain ⟨_, hpos, hi⟩ := hg
  have hm : ∀ t ∈ l, ∃ k, t = tokK s k ∧ errK s k = 0 := by
    unfold lexR at h
    split at h
    · cases h
    · split at h
      · cases h
      · exact lexF_mem s _ _ _ _ h
  refine ⟨⟨hpos, fun i hl hk => ?_, hle⟩, fun i hl hn hk => ?_, fun i hl h2 h5 hn => ?_⟩
  · have := (hi i hl).2.1
    by_cases e : i + 1 = l.length
    · exact absurd (this.2 e) hk
    · omega
  · have := (hi i hl).2.1.1 hk
    omega
  · obtain ⟨k, e, he⟩ := hm l[i] (List.getElem_mem hl)
    rw [e] at h2 h5 ⊢
    refine tok_lits he ?_ h2 h5
    rw [← e]
    intro hk
    have := (hi i hl).2.1.1 hk
    omega
end Go.Proofs.YtiabkkdeonepgaaGreatDoor
