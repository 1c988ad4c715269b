import Derived.Test.YtiabkkdeonepgaaGreatDoorShB
import Derived.Test.YtiabkkdeonepgaaGreatDoorXC
namespace Go.Proofs.YtiabkkdeonepgaaGreatDoor
open Go.RowKit
def jl (l : List Tok) : List UInt8 := l.flatMap fun t => t.lead.data.toList ++ t.text.data.toList
end Go.Proofs.YtiabkkdeonepgaaGreatDoor
namespace Go.Proofs.YtiabkkdeonepgaaGreatDoor
open Go.RowKit
def Good (s : ByteArray) (k : Nat) (l : List Tok) : Prop :=
  jl l = tl s k ∧ 0 < l.length ∧ ∀ i (h : i < l.length), l[i].at_ = k + (jl (l.take i)).length + l[i].lead.size ∧ (l[i].kind = 0 ↔ i + 1 = l.length) ∧ (l[i].text.size = 0 ↔ l[i].kind = 0)
theorem cut_tl (s : ByteArray) (a b : Nat) (h : a ≤ b) (_hb : b ≤ s.size) : tl s a = (s.extract a b).data.toList ++ tl s b := by
  unfold tl
  rw [ByteArray.data_extract, Array.toList_extract, List.extract_eq_take_drop]
  have e := List.take_append_drop (b - a) (s.data.toList.drop a)
  rw [List.drop_drop, show a + (b - a) = b by omega] at e
  exact e.symm
theorem tok_bytes (s : ByteArray) (k : Nat) (h : k ≤ s.size) : tl s k = ((tokK s k).lead.data.toList ++ (tokK s k).text.data.toList) ++ tl s (endK s k) := by
  have h1 := atK_le s k h
  have h2 := endK_le s k h
  rw [cut_tl s k (atK s k) h1.1 h1.2, cut_tl s (atK s k) (endK s k) h2.1 h2.2, List.append_assoc]
  rfl
theorem tok_lead (s : ByteArray) (k : Nat) (h : k ≤ s.size) : (tokK s k).at_ = k + (tokK s k).lead.size := by
  have h1 := atK_le s k h
  show atK s k = k + (s.extract k (atK s k)).size
  rw [ByteArray.size_extract]
  omega
theorem tok_none (s : ByteArray) (k : Nat) (h : k ≤ s.size) (he : errK s k = 0) : ((tokK s k).text.size = 0 ↔ (tokK s k).kind = 0) ∧ ((tokK s k).kind = 0 → endK s k = s.size) := by
  obtain ⟨h1, h2⟩ := first_kind (tl s (atK s k)) he
  have h3 := tok_size s k h
  have h4 : endK s k = (tokK s k).at_ + (firstL (tl s (atK s k))).2.1 := rfl
  have h5 : (tokK s k).kind = (firstL (tl s (atK s k))).1 := rfl
  have h6 := tl_len s (atK s k)
  have h7 := atK_le s k h
  have h8 := endK_le s k h
  rw [h5]
  refine ⟨⟨fun hz => h1.2 (h2.1 (by omega)), fun hz => ?_⟩, fun hz => ?_⟩
  · have := h2.2 (h1.1 hz)
    omega
  · have := h1.1 hz
    rw [this] at h6
    simp at h6
    omega
theorem lexF_good (s : ByteArray) : ∀ (f k n : Nat) (l : List Tok), k ≤ s.size → lexF s f k n = .good l → Good s k l
  | 0, k, n, l, hk, h => by simp [lexF] at h
  | f + 1, k, n, l, hk, h => by
    by_cases he : errK s k = 0
    · by_cases hn : n = 4000
      · subst hn; rw [lexF_many he] at h; cases h
      · have hb := tok_bytes s k hk
        have hl := tok_lead s k hk
        obtain ⟨hx, hz⟩ := tok_none s k hk he
        by_cases h0 : (tokK s k).kind = 0
        · rw [lexF_end he hn h0] at h
          cases h
          rw [hz h0, tl_end s s.size (Nat.le_refl _), List.append_nil] at hb
          refine ⟨by rw [hb]; simp [jl], by simp, fun i hi => ?_⟩
          obtain rfl : i = 0 := by simp at hi; omega
          simp only [List.getElem_cons_zero, List.take_zero, List.length_cons, List.length_nil]
          exact ⟨by simpa [jl] using hl, by simp [h0], hx⟩
        · rw [lexF_next he hn h0] at h
          cases hr : lexF s f (endK s k) (n + 1) with
          | bad e a => rw [hr] at h; cases h
          | good l' =>
            rw [hr] at h
            cases h
            obtain ⟨g1, g2, g3⟩ := lexF_good s f (endK s k) (n + 1) l' (endK_le s k hk).2 hr
            have hts := tok_size s k hk
            refine ⟨by rw [hb, ← g1]; simp [jl], by simp, fun i hi => ?_⟩
            cases i with
            | zero =>
              simp only [List.cons_append, List.nil_append, List.getElem_cons_zero, List.take_zero, List.length_cons]
              exact ⟨by simpa [jl] using hl, ⟨fun e => absurd e h0, fun e => by omega⟩, hx⟩
            | succ j =>
              simp only [List.cons_append, List.nil_append, List.length_cons] at hi ⊢
              obtain ⟨a1, a2, a3⟩ := g3 j (by omega)
              simp only [List.getElem_cons_succ, List.take_succ_cons]
              refine ⟨?_, by rw [a2]; omega, a3⟩
              rw [a1]
              have : (jl (tokK s k :: l'.take j)).length = (tokK s k).lead.size + (tokK s k).text.size + (jl (l'.take j)).length := by
                simp [jl, Nat.add_assoc]
              rw [this]
              omega
    · rw [lexF_err he] at h; cases h
theorem lexF_bad (s : ByteArray) : ∀ (f k n : Nat) (e a : Int), lexF s f k n = .bad e a → e ≠ 0
  | 0, k, n, e, a, h => by
    simp [lexF] at h
    omega
  | f + 1, k, n, e, a, h => by
    by_cases he : errK s k = 0
    · by_cases hn : n = 4000
      · subst hn; rw [lexF_many he] at h; injection h; omega
      · by_cases h0 : (tokK s k).kind = 0
        · rw [lexF_end he hn h0] at h; cases h
        · rw [lexF_next he hn h0] at h
          cases hr : lexF s f (endK s k) (n + 1) with
          | bad e' a' =>
            rw [hr] at h
            injection h with h1 h2
            have := lexF_bad s f (endK s k) (n + 1) e' a' hr
            omega
          | good l' => rw [hr] at h; cases h
    · rw [lexF_err he] at h
      injection h with h1 h2
      omega
theorem lexR_bad {s : ByteArray} {e a : Int} (h : lexR s = .bad e a) : e ≠ 0 := by
  unfold lexR at h
  split at h
  · injection h; omega
  · split at h
    · injection h; omega
    · exact lexF_bad s _ _ _ _ _ h
theorem lexR_good {s : ByteArray} {l : List Tok} (h : lexR s = .good l) : Good s 0 l ∧ s.size ≤ 16384 := by
  unfold lexR at h
  split at h
  · cases h
  · split at h
    · cases h
    · exact ⟨lexF_good s _ _ _ _ (by omega) h, by omega⟩
end Go.Proofs.YtiabkkdeonepgaaGreatDoor
