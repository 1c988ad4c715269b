/- The document's own text behind edits, byte by byte, is the same text. -/
import Derived.Test.YtendbkbjmibchaaApply
import Derived.Test.YtendbkbjmibchaaY
namespace Go.Proofs.Ytendbkbjmibchaa
open Go.RowKit

/-- What is still to be laid at place k, if these edits are left. -/
def rest_ (s : ByteArray) (k : Nat) : List Ed → List UInt8
  | [] => pbs s (pcs s.size k [])
  | e :: r => if e.f < k then pbs s (pcs s.size e.t r) else pbs s (pcs s.size k (e :: r))
theorem rest_nil (s : ByteArray) (k : Nat) : rest_ s k [] = pbs s (pcs s.size k []) := rfl
theorem rest_cons (s : ByteArray) (k : Nat) (e : Ed) (r : List Ed) : rest_ s k (e :: r) = if e.f < k then pbs s (pcs s.size e.t r) else pbs s (pcs s.size k (e :: r)) := rfl
/-- Edits that are left at place k: sound, and the first one not over. -/
def Left (n : Int) (k : Nat) (L : List Ed) : Prop := (∃ p, sndGo n p L = 0) ∧ ∀ e r, L = e :: r → (k : Int) ≤ e.t
def one (s : ByteArray) (k : Nat) : List UInt8 := (s.data.toList.drop k).take 1

theorem lvb (s : ByteArray) (k m : Int) (h0 : 0 ≤ k) (h : k ≤ m) : pbs s (lv k m) = (s.data.toList.drop k.toNat).take (m.toNat - k.toNat) := by
  unfold lv
  split
  · simp [pbs, pb, ByteArray.size]
  · rw [show m.toNat - k.toNat = 0 by omega]; rfl
theorem lvb_step (s : ByteArray) (k : Nat) (m : Int) (h : (k : Int) < m) : pbs s (lv k m) = one s k ++ pbs s (lv ((k : Int) + 1) m) := by
  rw [lvb s k m (by omega) (by omega), lvb s (k + 1) m (by omega) (by omega)]
  unfold one
  rw [Int.toNat_natCast, show ((k : Int) + 1).toNat = k + 1 by omega, show m.toNat - k = 1 + (m.toNat - (k + 1)) by omega, List.take_add, List.drop_drop]
theorem pcs_step (s : ByteArray) (k : Nat) (L : List Ed) (hk : k < s.size) (hL : ∀ e r, L = e :: r → (k : Int) < e.f) : pbs s (pcs s.size k L) = one s k ++ pbs s (pcs s.size ((k : Int) + 1) L) := by
  cases L with
  | nil => rw [pcs, pcs]; exact lvb_step s k s.size (by omega)
  | cons e r =>
    rw [pcs, pcs, List.append_assoc, List.append_assoc, pbs_append, pbs_append, pbs_append, pbs_append, lvb_step s k e.f (hL e r rfl), List.append_assoc]
theorem rest_step (s : ByteArray) (k : Nat) (L : List Ed) (hL : ∀ e r, L = e :: r → (k : Int) < e.f) : rest_ s (k + 1) L = pbs s (pcs s.size ((k : Int) + 1) L) := by
  cases L with
  | nil => unfold rest_; congr 1
  | cons e r =>
    have := hL e r rfl
    have h2 : ¬ e.f < ((k + 1 : Nat) : Int) := by omega
    show (if e.f < ((k + 1 : Nat) : Int) then _ else _) = _
    rw [if_neg h2]
    congr 1
theorem left_next {n : Int} {k : Nat} {e : Ed} {r : List Ed} (h : Left n k (e :: r)) (ht : e.t = k) : Left n (k + 1) r ∧ ∀ e' r', r = e' :: r' → (k : Int) < e'.f := by
  obtain ⟨⟨p, hp⟩, _⟩ := h
  obtain ⟨_, _, _, _, _, g5⟩ := sndGo_cons hp
  have key : ∀ e' r', r = e' :: r' → (k : Int) < e'.f ∧ e'.f ≤ e'.t := fun e' r' hr => by
    subst hr
    obtain ⟨_, h1, _, _, h4, _⟩ := sndGo_cons g5
    simp [near] at h4
    omega
  exact ⟨⟨⟨_, g5⟩, fun e' r' hr => by have := key e' r' hr; omega⟩, fun e' r' hr => (key e' r' hr).1⟩
theorem left_stay {n : Int} {k : Nat} {e : Ed} {r : List Ed} (h : Left n k (e :: r)) (ht : (k : Int) < e.t) : Left n (k + 1) (e :: r) :=
  ⟨h.1, fun e' r' hr => by injection hr with h1 _; subst h1; omega⟩
theorem end_nil (s : ByteArray) (k : Nat) (h : s.size ≤ k) : pbs s (pcs s.size k []) = [] := by
  rw [pcs]; unfold lv; rw [if_neg (by omega)]; rfl
theorem tx_bytes (s : ByteArray) (x : ByteArray) : pbs s (tx_ x) = x.data.toList := by
  unfold tx_
  split
  · rename_i h
    have : x.data.toList = [] := by rw [← List.length_eq_zero_iff, Array.length_toList]; exact h
    rw [this]; rfl
  · rename_i h
    simp [pbs, pb, h]
theorem pcs_put (s : ByteArray) (k : Nat) (e : Ed) (r : List Ed) (h : e.f = k) : pbs s (pcs s.size k (e :: r)) = e.x.data.toList ++ pbs s (pcs s.size e.t r) := by
  rw [pcs, List.append_assoc, pbs_append, pbs_append, tx_bytes, h]
  have : lv (k : Int) k = [] := by unfold lv; rw [if_neg (by omega)]
  rw [this]; rfl
/-- The byte at place k is laid; those left begin behind it. -/
theorem go_byte {s : ByteArray} {k : Nat} {L : List Ed} {o : List UInt8} {all : List UInt8} (hk : k < s.size) (hL : ∀ e r, L = e :: r → (k : Int) < e.f) (h : o ++ pbs s (pcs s.size k L) = all) :
    (o ++ one s k) ++ rest_ s (k + 1) L = all := by
  rw [rest_step s k L hL, List.append_assoc, ← pcs_step s k L hk hL]; exact h
theorem go_none {s : ByteArray} {k : Nat} {o : List UInt8} {all : List UInt8} (hk : s.size ≤ k) (h : o ++ pbs s (pcs s.size k []) = all) : o ++ rest_ s (k + 1) [] = all := by
  rw [end_nil s k hk] at h
  unfold rest_
  rw [end_nil s (k + 1) (by omega)]; exact h

/-- What the loop holds: what is laid, and what is still to be laid, are the whole. -/
def Laid (s : ByteArray) (es : List Ed) (k j : Nat) (o : ByteArray) : Prop := o.data.toList ++ rest_ s k (es.drop j) = apd s es ∧ Left s.size k (es.drop j)
theorem one_bytes (s : ByteArray) (k : Nat) : (s.extract k (k + 1)).data.toList = one s k := by
  rw [ByteArray.data_extract, Array.toList_extract, List.extract_eq_take_drop, Nat.add_sub_cancel_left]
  rfl
theorem cat_bytes (a b : ByteArray) : (a ++ b).data.toList = a.data.toList ++ b.data.toList := by rw [ByteArray.data_append, Array.toList_append]
theorem laid_size {s : ByteArray} {es : List Ed} {k j : Nat} {o : ByteArray} (h : Laid s es k j o) : o.size ≤ (apd s es).length := by
  rw [← h.1, List.length_append, Array.length_toList]
  exact Nat.le_add_right _ _
theorem drop_end (es : List Ed) (j : Nat) (h : es.length ≤ j) : es.drop j = [] := List.drop_eq_nil_of_le h
theorem drop_at (es : List Ed) (j : Nat) (h : j < es.length) : es.drop j = es[j] :: es.drop (j + 1) := List.drop_eq_getElem_cons h

section
variable {s : ByteArray} {es : List Ed} {k j : Nat} {o : ByteArray}
theorem laid_A (h : Laid s es k j o) (hj : es.length ≤ j) (hk : k < s.size) : Laid s es (k + 1) j (o ++ s.extract k (k + 1)) := by
  unfold Laid at *
  rw [drop_end es j hj] at *
  exact ⟨by rw [cat_bytes, one_bytes]; exact go_byte hk (by simp) h.1, ⟨⟨none, rfl⟩, by simp⟩⟩
theorem laid_A0 (h : Laid s es k j o) (hj : es.length ≤ j) (hk : s.size ≤ k) : Laid s es (k + 1) j o := by
  unfold Laid at *
  rw [drop_end es j hj] at *
  exact ⟨go_none hk h.1, ⟨⟨none, rfl⟩, by simp⟩⟩
theorem laid_B1 (h : Laid s es k j o) (hj : j < es.length) (hf : (k : Int) < es[j].f) : k < s.size ∧ (k : Int) < es[j].t ∧ Laid s es (k + 1) j (o ++ s.extract k (k + 1)) := by
  unfold Laid at *
  rw [drop_at es j hj] at *
  obtain ⟨⟨p, hp⟩, hl⟩ := h.2
  obtain ⟨g0, g1, g2, _⟩ := sndGo_cons hp
  have hks : k < s.size := by omega
  have h1 := h.1
  rw [rest_cons, if_neg (by omega)] at h1
  exact ⟨hks, by omega, by rw [cat_bytes, one_bytes]; exact go_byte hks (fun e r he => by injection he with he _; subst he; exact hf) h1, left_stay h.2 (by omega)⟩
/-- What is left at an edit that ends here. -/
theorem laid_over (h : Laid s es k j o) (hj : j < es.length) (ht : es[j].t = k) : ∃ m : List UInt8, m = (if es[j].f = k then es[j].x.data.toList else []) ∧
    (o.data.toList ++ m) ++ pbs s (pcs s.size k (es.drop (j + 1))) = apd s es ∧ Left s.size (k + 1) (es.drop (j + 1)) ∧ (∀ e r, es.drop (j + 1) = e :: r → (k : Int) < e.f) ∧ es[j].f ≤ k := by
  unfold Laid at h
  rw [drop_at es j hj] at h
  obtain ⟨⟨p, hp⟩, hl⟩ := h.2
  obtain ⟨g0, g1, g2, _⟩ := sndGo_cons hp
  have hn := left_next h.2 ht
  refine ⟨_, rfl, ?_, hn.1, hn.2, by omega⟩
  have h1 := h.1
  rw [rest_cons] at h1
  by_cases hf : es[j].f < k
  · rw [if_pos hf, ht] at h1
    rw [if_neg (by omega), List.append_nil]; exact h1
  · have hfe : es[j].f = k := by omega
    rw [if_neg hf, pcs_put s k _ _ hfe, ht] at h1
    rw [if_pos hfe, List.append_assoc]; exact h1
theorem laid_B2 (h : Laid s es k j o) (hj : j < es.length) (ht : es[j].t = k) (hf : es[j].f = k) (hk : k < s.size) : Laid s es (k + 1) (j + 1) (o ++ es[j].x ++ s.extract k (k + 1)) := by
  obtain ⟨m, hm, h1, h2, h3, _⟩ := laid_over h hj ht
  rw [if_pos hf] at hm
  subst hm
  exact ⟨by rw [cat_bytes, one_bytes, cat_bytes]; exact go_byte hk h3 h1, h2⟩
theorem nil_at_end (hk : s.size ≤ k) (h2 : Left s.size (k + 1) (es.drop (j + 1))) : es.drop (j + 1) = [] := by
  cases hd : es.drop (j + 1) with
  | nil => rfl
  | cons e r =>
    rw [hd] at h2
    obtain ⟨⟨p, hp⟩, hl⟩ := h2
    obtain ⟨g0, g1, g2, _⟩ := sndGo_cons hp
    have := hl e r rfl
    omega
theorem laid_B20 (h : Laid s es k j o) (hj : j < es.length) (ht : es[j].t = k) (hf : es[j].f = k) (hk : s.size ≤ k) : Laid s es (k + 1) (j + 1) (o ++ es[j].x) := by
  obtain ⟨m, hm, h1, h2, h3, _⟩ := laid_over h hj ht
  rw [if_pos hf] at hm
  subst hm
  have hd := nil_at_end hk h2
  unfold Laid
  rw [hd] at h1 h2 ⊢
  exact ⟨by rw [cat_bytes]; exact go_none hk h1, h2⟩
theorem laid_B4 (h : Laid s es k j o) (hj : j < es.length) (ht : es[j].t = k) (hf : es[j].f < k) (hk : k < s.size) : Laid s es (k + 1) (j + 1) (o ++ s.extract k (k + 1)) := by
  obtain ⟨m, hm, h1, h2, h3, _⟩ := laid_over h hj ht
  rw [if_neg (by omega)] at hm
  subst hm
  rw [List.append_nil] at h1
  exact ⟨by rw [cat_bytes, one_bytes]; exact go_byte hk h3 h1, h2⟩
theorem laid_B40 (h : Laid s es k j o) (hj : j < es.length) (ht : es[j].t = k) (hf : es[j].f < k) (hk : s.size ≤ k) : Laid s es (k + 1) (j + 1) o := by
  obtain ⟨m, hm, h1, h2, h3, _⟩ := laid_over h hj ht
  rw [if_neg (by omega)] at hm
  subst hm
  rw [List.append_nil] at h1
  have hd := nil_at_end hk h2
  unfold Laid
  rw [hd] at h1 h2 ⊢
  exact ⟨go_none hk h1, h2⟩
theorem laid_B3 (h : Laid s es k j o) (hj : j < es.length) (ht : (k : Int) < es[j].t) (hf : es[j].f = k) : Laid s es (k + 1) j (o ++ es[j].x) := by
  unfold Laid at *
  rw [drop_at es j hj] at *
  have h1 := h.1
  rw [rest_cons, if_neg (by omega), pcs_put s k _ _ hf] at h1
  rw [rest_cons, if_pos (by omega), cat_bytes, List.append_assoc]
  exact ⟨h1, left_stay h.2 ht⟩
theorem laid_B5 (h : Laid s es k j o) (hj : j < es.length) (ht : (k : Int) < es[j].t) (hf : es[j].f < k) : Laid s es (k + 1) j o := by
  unfold Laid at *
  rw [drop_at es j hj] at *
  have h1 := h.1
  rw [rest_cons, if_pos hf] at h1
  rw [rest_cons, if_pos (by omega)]
  exact ⟨h1, left_stay h.2 ht⟩
end
theorem laid_start (s : ByteArray) (es : List Ed) (hs : snd es s.size = 0) : Laid s es 0 0 ⟨#[]⟩ := by
  have hs' : sndGo s.size none es = 0 := by
    unfold snd at hs
    split at hs
    · omega
    · exact hs
  unfold Laid
  rw [List.drop_zero]
  cases es with
  | nil => exact ⟨rfl, ⟨none, hs'⟩, by simp⟩
  | cons e r =>
    obtain ⟨g0, g1, g2, _⟩ := sndGo_cons hs'
    refine ⟨?_, ⟨none, hs'⟩, fun e' r' h => by injection h with h _; subst h; omega⟩
    rw [rest_cons, if_neg (by omega)]
    rfl
theorem laid_end {s : ByteArray} {es : List Ed} {j : Nat} {o : ByteArray} (h : Laid s es (s.size + 1) j o) : o = ⟨(apd s es).toArray⟩ := by
  have hd : es.drop j = [] := by
    cases hd : es.drop j with
    | nil => rfl
    | cons e r =>
      obtain ⟨⟨p, hp⟩, hl⟩ := h.2
      rw [hd] at hp
      obtain ⟨g0, g1, g2, _⟩ := sndGo_cons hp
      have := hl e r hd
      omega
  have h1 := h.1
  rw [hd] at h1
  rw [rest_nil, end_nil s _ (by omega), List.append_nil] at h1
  rw [← h1]
end Go.Proofs.Ytendbkbjmibchaa
