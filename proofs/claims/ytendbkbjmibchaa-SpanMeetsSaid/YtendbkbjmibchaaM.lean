/- Plain mathematics: the line feeds of a text, where lines begin and end. -/
import Derived.Test.YtendbkbjmibchaaC
namespace Go.Proofs.Ytendbkbjmibchaa
open Go.RowKit

theorem fd_mem (s : ByteArray) (k : Nat) : ∀ x, x ∈ fd s k → 0 ≤ x ∧ x < k ∧ nlAt s x.toNat = true := by
  induction k with
  | zero => intro x h; simp [fd] at h
  | succ k ih =>
    intro x h
    unfold fd at h
    split at h
    · rename_i hn
      rcases List.mem_append.1 h with h | h
      · have := ih x h; exact ⟨this.1, by omega, this.2.2⟩
      · simp at h; subst h; exact ⟨by omega, by omega, by simpa using hn⟩
    · have := ih x h; exact ⟨this.1, by omega, this.2.2⟩
theorem fd_app (s : ByteArray) (k d : Nat) : ∃ r, fd s (k + d) = fd s k ++ r ∧ ∀ x, x ∈ r → (k : Int) ≤ x := by
  induction d with
  | zero => exact ⟨[], by simp, by simp⟩
  | succ d ih =>
    obtain ⟨r, h, hr⟩ := ih
    show ∃ r, fd s ((k + d) + 1) = fd s k ++ r ∧ _
    by_cases hn : nlAt s (k + d) = true
    · have e : fd s ((k + d) + 1) = fd s (k + d) ++ [((k + d : Nat) : Int)] := by
        rw [fd, if_pos hn]
      refine ⟨r ++ [((k + d : Nat) : Int)], by rw [e, h, List.append_assoc], fun x hx => ?_⟩
      rcases List.mem_append.1 hx with hx | hx
      · exact hr x hx
      · simp at hx; omega
    · exact ⟨r, by rw [fd, if_neg hn]; exact h, hr⟩
theorem fd_strict (s : ByteArray) (k : Nat) : ∀ i j, i < j → j < (fd s k).length → (fd s k).getD i 0 < (fd s k).getD j 0 := by
  induction k with
  | zero => intro i j _ h; simp [fd] at h
  | succ k ih =>
    intro i j hij hj
    by_cases hn : nlAt s k = true
    · have e : fd s (k + 1) = fd s k ++ [(k : Int)] := by simp [fd, hn]
      rw [e] at hj ⊢
      simp only [List.length_append, List.length_singleton] at hj
      by_cases hjl : j < (fd s k).length
      · have := ih i j hij hjl
        simpa [List.getD_eq_getElem?_getD, List.getElem?_append_left (show i < (fd s k).length by omega), List.getElem?_append_left hjl] using this
      · obtain rfl : j = (fd s k).length := by omega
        have h1 : (fd s k ++ [(k : Int)]).getD (fd s k).length 0 = k := by simp
        have h2 : (fd s k ++ [(k : Int)]).getD i 0 = (fd s k).getD i 0 := by
          simp [List.getD_eq_getElem?_getD, List.getElem?_append_left (show i < (fd s k).length by omega)]
        rw [h1, h2]
        have := fd_mem s k ((fd s k).getD i 0) (by
          rw [List.getD_eq_getElem?_getD, List.getElem?_eq_getElem hij]; exact List.getElem_mem _)
        exact this.2.1
    · have e : fd s (k + 1) = fd s k := by simp [fd, hn]
      rw [e] at hj ⊢
      exact ih i j hij hj
theorem fd_sorted (s : ByteArray) (k : Nat) : ∀ i j, i ≤ j → j < (fd s k).length → (fd s k).getD i 0 ≤ (fd s k).getD j 0 := by
  intro i j hij hj
  rcases Nat.lt_or_eq_of_le hij with h | rfl
  · have := fd_strict s k i j h hj; omega
  · exact Int.le_refl _
theorem fd_at (s : ByteArray) (k i : Nat) (h : i < (fd s k).length) : 0 ≤ (fd s k).getD i 0 ∧ (fd s k).getD i 0 < k ∧ nlAt s ((fd s k).getD i 0).toNat = true :=
  fd_mem s k _ (by rw [List.getD_eq_getElem?_getD, List.getElem?_eq_getElem h]; exact List.getElem_mem _)
theorem F_len (s : ByteArray) : (F s).length ≤ s.size := fd_len s _
theorem F_strict (s : ByteArray) : ∀ i j, i < j → j < (F s).length → (F s).getD i 0 < (F s).getD j 0 := fd_strict s _
theorem F_sorted (s : ByteArray) : ∀ i j, i ≤ j → j < (F s).length → (F s).getD i 0 ≤ (F s).getD j 0 := fd_sorted s _
theorem F_at (s : ByteArray) (i : Nat) (h : i < (F s).length) : 0 ≤ (F s).getD i 0 ∧ (F s).getD i 0 < s.size ∧ nlAt s ((F s).getD i 0).toNat = true := fd_at s _ i h
theorem F_app (s : ByteArray) (k : Nat) (h : k ≤ s.size) : ∃ r, F s = fd s k ++ r ∧ ∀ x, x ∈ r → (k : Int) ≤ x := by
  obtain ⟨r, hr, hx⟩ := fd_app s k (s.size - k)
  rw [show k + (s.size - k) = s.size by omega] at hr
  exact ⟨r, hr, hx⟩
/-- How many feeds stand ahead of a place: by where they are found. -/
theorem fd_count (s : ByteArray) (a k : Nat) (ha : a ≤ s.size) (hk : k ≤ (F s).length) (h1 : ∀ j, j < k → (F s).getD j 0 < a)
    (h2 : ∀ j, k ≤ j → j < (F s).length → (a : Int) ≤ (F s).getD j 0) : k = (fd s a).length := by
  obtain ⟨r, hr, hx⟩ := F_app s a ha
  have hm := fd_mem s a
  rcases Nat.lt_trichotomy k (fd s a).length with h | h | h
  · have := h2 k (Nat.le_refl _) (by rw [hr]; simp; omega)
    rw [hr, List.getD_eq_getElem?_getD, List.getElem?_append_left h, List.getElem?_eq_getElem h] at this
    have := (hm _ (List.getElem_mem h)).2.1
    simp at *
    omega
  · exact h
  · have hl : (fd s a).length < (fd s a ++ r).length := by rw [← hr]; omega
    have := h1 (fd s a).length h
    rw [hr, List.getD_eq_getElem?_getD, List.getElem?_append_right (Nat.le_refl _)] at this
    simp only [List.length_append] at hl
    rw [Nat.sub_self, List.getElem?_eq_getElem (by omega)] at this
    have := hx _ (List.getElem_mem (show 0 < r.length by omega))
    simp at *
    omega

/-- Where line i begins, and where it ends. -/
def bg (s : ByteArray) (i : Nat) : Nat := if i = 0 then 0 else ((F s).getD (i - 1) 0).toNat + 1
def en (s : ByteArray) (i : Nat) : Nat := if i = (F s).length then s.size else ((F s).getD i 0).toNat
def lno (s : ByteArray) (a : Nat) : Nat := (fd s a).length
theorem bg_le_en (s : ByteArray) (i : Nat) (h : i ≤ (F s).length) : bg s i ≤ en s i ∧ en s i ≤ s.size := by
  unfold bg en
  by_cases h1 : i = (F s).length
  · rw [if_pos h1]
    refine ⟨?_, Nat.le_refl _⟩
    split
    · omega
    · have := F_at s (i - 1) (by omega); omega
  · rw [if_neg h1]
    have := F_at s i (by omega)
    refine ⟨?_, by omega⟩
    split
    · omega
    · have h3 := F_strict s (i - 1) i (by omega) (by omega)
      have := F_at s (i - 1) (by omega)
      omega
theorem bg_succ (s : ByteArray) (i : Nat) (h : i < (F s).length) : bg s (i + 1) = en s i + 1 ∧ nlAt s (en s i) = true := by
  unfold bg en
  rw [if_neg (by omega), if_neg (by omega)]
  exact ⟨by simp, (F_at s i h).2.2⟩
theorem lno_le (s : ByteArray) (a : Nat) (ha : a ≤ s.size) : lno s a ≤ (F s).length := by
  obtain ⟨r, hr, hx⟩ := F_app s a ha
  unfold lno
  rw [hr]; simp
theorem lno_in (s : ByteArray) (a : Nat) (ha : a ≤ s.size) : bg s (lno s a) ≤ a ∧ a ≤ en s (lno s a) := by
  obtain ⟨r, hr, hx⟩ := F_app s a ha
  have hm := fd_mem s a
  unfold bg en lno
  constructor
  · split
    · omega
    · rename_i h0
      have hl : (fd s a).length - 1 < (fd s a).length := by omega
      rw [hr, List.getD_eq_getElem?_getD, List.getElem?_append_left hl, List.getElem?_eq_getElem hl]
      have := hm _ (List.getElem_mem hl)
      simp at *
      omega
  · split
    · exact ha
    · rename_i h0
      have hl : (fd s a).length < (fd s a ++ r).length := by rw [← hr]; have := lno_le s a ha; unfold lno at this; omega
      simp only [List.length_append] at hl
      rw [hr, List.getD_eq_getElem?_getD, List.getElem?_append_right (Nat.le_refl _), Nat.sub_self, List.getElem?_eq_getElem (by omega)]
      have := hx _ (List.getElem_mem (show 0 < r.length by omega))
      simp at *
      omega
end Go.Proofs.Ytendbkbjmibchaa
