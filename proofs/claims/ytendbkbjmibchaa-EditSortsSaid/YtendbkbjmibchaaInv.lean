/- Plain mathematics: edits that undo others. -/
import Derived.Test.YtendbkbjmibchaaEditDoesWalk
namespace Go.Proofs.Ytendbkbjmibchaa
open Go.RowKit

/-- How much longer one edit makes a text. -/
def grow (e : Ed) : Int := (e.x.size : Int) - (e.t - e.f)
/-- The edits that undo some; m: how much longer the text is ahead of them. -/
def inv (s : ByteArray) : Int → List Ed → List Ed
  | _, [] => []
  | m, e :: r => ⟨e.f + m, e.f + m + e.x.size, s.extract e.f.toNat e.t.toNat⟩ :: inv s (m + grow e) r
theorem inv_len (s : ByteArray) : ∀ (es : List Ed) (m : Int), (inv s m es).length = es.length
  | [], _ => rfl
  | e :: r, m => by rw [inv, List.length_cons, List.length_cons, inv_len s r]

theorem cut_list (s : ByteArray) (f t : Nat) : (s.extract f t).data.toList = (s.data.toList.drop f).take (t - f) := by
  rw [ByteArray.data_extract, Array.toList_extract, List.extract_eq_take_drop]
theorem size_list (s : ByteArray) : s.data.toList.length = s.size := Array.length_toList
theorem cut_size (s : ByteArray) (f t : Nat) (h : t ≤ s.size) : (s.extract f t).size = t - f := by
  rw [ByteArray.size_extract]; omega

/-- Undone behind a place: X is the text behind the edits, P what stands ahead of it there. -/
theorem inv_pcs (s X : ByteArray) : ∀ (es : List Ed) (p : Option Int) (a m : Int) (P : List UInt8), 0 ≤ a → a ≤ s.size → ((p = none ∧ a = 0) ∨ p = some a) → sndGo s.size p es = 0 →
    (P.length : Int) = a + m → X.data.toList = P ++ pbs s (pcs s.size a es) →
    pbs X (pcs X.size (a + m) (inv s m es)) = s.data.toList.drop a.toNat
  | [], p, a, m, P, h0, h1, _, _, hP, hX => by
    have hl : (X.size : Int) = P.length + (s.size - a) := by
      rw [← size_list, hX, pcs, List.length_append, lvb s a s.size h0 h1, List.length_take, List.length_drop, size_list]
      omega
    rw [inv, pcs, lvb X (a + m) X.size (by omega) (by omega), hX, pcs, lvb s a s.size h0 h1]
    rw [List.drop_append_of_le_length (by omega), show (a + m).toNat = P.length by omega, List.drop_length, List.nil_append, List.take_take]
    rw [List.take_of_length_le (by rw [List.length_drop, size_list]; omega)]
  | e :: r, p, a, m, P, h0, h1, hp, hs, hP, hX => by
    obtain ⟨g0, g1, g2, g3, g4, g5⟩ := sndGo_cons hs
    have hae : a ≤ e.f := near_pos (hp.imp (fun h => ⟨h.1, h.2, g0⟩) id) g4
    have k1 : (pbs s (lv a e.f)) = (s.data.toList.drop a.toNat).take (e.f.toNat - a.toNat) := lvb s a e.f h0 hae
    have k1l : (pbs s (lv a e.f)).length = e.f.toNat - a.toNat := by rw [k1, List.length_take, List.length_drop, size_list]; omega
    rw [pcs, pbs_append, pbs_append, tx_bytes] at hX
    have hX2 : X.data.toList = (P ++ pbs s (lv a e.f) ++ e.x.data.toList) ++ pbs s (pcs s.size e.t r) := by rw [hX]; simp [List.append_assoc]
    have hXl : (X.size : Int) = P.length + (e.f - a) + e.x.size + (pbs s (pcs s.size e.t r)).length := by
      rw [← size_list, hX2, List.length_append, List.length_append, List.length_append, k1l, size_list]; omega
    have ih := inv_pcs s X r (some e.t) e.t (m + grow e) (P ++ pbs s (lv a e.f) ++ e.x.data.toList) (by omega) g2 (.inr rfl) g5
      (by rw [List.length_append, List.length_append, k1l, size_list]; unfold grow; omega) hX2
    rw [inv, pcs, pbs_append, pbs_append, tx_bytes]
    show pbs X (lv (a + m) (e.f + m)) ++ (s.extract e.f.toNat e.t.toNat).data.toList ++ pbs X (pcs X.size (e.f + m + e.x.size) (inv s (m + grow e) r)) = _
    rw [show e.f + m + (e.x.size : Int) = e.t + (m + grow e) by unfold grow; omega, ih, lvb X (a + m) (e.f + m) (by omega) (by omega), hX2, cut_list]
    rw [List.append_assoc, List.append_assoc, List.append_assoc, List.drop_append_of_le_length (by omega), show (a + m).toNat = P.length by omega, List.drop_length, List.nil_append,
      List.take_append_of_le_length (by omega), List.take_of_length_le (by omega), k1]
    have e2 : (s.data.toList.drop e.f.toNat).take (e.t.toNat - e.f.toNat) ++ s.data.toList.drop e.t.toNat = s.data.toList.drop e.f.toNat := by
      have : s.data.toList.drop e.t.toNat = (s.data.toList.drop e.f.toNat).drop (e.t.toNat - e.f.toNat) := by rw [List.drop_drop]; congr 1; omega
      rw [this, List.take_append_drop]
    have e3 : (s.data.toList.drop a.toNat).take (e.f.toNat - a.toNat) ++ s.data.toList.drop e.f.toNat = s.data.toList.drop a.toNat := by
      have : s.data.toList.drop e.f.toNat = (s.data.toList.drop a.toNat).drop (e.f.toNat - a.toNat) := by rw [List.drop_drop]; congr 1; omega
      rw [this, List.take_append_drop]
    rw [e2, e3]

theorem inv_snd (s X : ByteArray) : ∀ (es : List Ed) (p q : Option Int) (a m : Int) (P : List UInt8), 0 ≤ a → a ≤ s.size → ((p = none ∧ q = none ∧ a = 0) ∨ (p = some a ∧ q = some (a + m))) → sndGo s.size p es = 0 →
    (P.length : Int) = a + m → X.data.toList = P ++ pbs s (pcs s.size a es) → sndGo X.size q (inv s m es) = 0
  | [], p, q, a, m, P, h0, h1, _, _, hP, hX => rfl
  | e :: r, p, q, a, m, P, h0, h1, hp, hs, hP, hX => by
    obtain ⟨g0, g1, g2, g3, g4, g5⟩ := sndGo_cons hs
    have hae : a ≤ e.f := near_pos (hp.imp (fun h => ⟨h.1, h.2.2, g0⟩) (fun h => h.1)) g4
    have k1l : (pbs s (lv a e.f)).length = e.f.toNat - a.toNat := by rw [lvb s a e.f h0 hae, List.length_take, List.length_drop, size_list]; omega
    rw [pcs, pbs_append, pbs_append, tx_bytes] at hX
    have hX2 : X.data.toList = (P ++ pbs s (lv a e.f) ++ e.x.data.toList) ++ pbs s (pcs s.size e.t r) := by rw [hX]; simp [List.append_assoc]
    have hXl : (X.size : Int) = P.length + (e.f - a) + e.x.size + (pbs s (pcs s.size e.t r)).length := by
      rw [← size_list, hX2, List.length_append, List.length_append, List.length_append, k1l, size_list]; omega
    have ih := inv_snd s X r (some e.t) (some (e.t + (m + grow e))) e.t (m + grow e) (P ++ pbs s (lv a e.f) ++ e.x.data.toList) (by omega) g2 (.inr ⟨rfl, rfl⟩) g5
      (by rw [List.length_append, List.length_append, k1l, size_list]; unfold grow; omega) hX2
    rw [inv, sndGo, if_neg (by simp only; omega), if_neg (by simp only; rw [cut_size s _ _ (by omega)]; omega), if_neg ?_]
    · rw [show e.f + m + (e.x.size : Int) = e.t + (m + grow e) by unfold grow; omega]
      exact ih
    · rcases hp with ⟨_, rfl, _⟩ | ⟨hp, rfl⟩
      · simp [near]
      · subst hp
        simp only [near, decide_eq_true_iff] at g4 ⊢
        omega

/-- Undone, the text is itself; and the edits that undo are sound. -/
theorem inv_apd (s : ByteArray) (es : List Ed) (hs : snd es s.size = 0) : snd (inv s 0 es) (apd s es).toArray.size = 0 ∧ apd ⟨(apd s es).toArray⟩ (inv s 0 es) = s.data.toList := by
  have hl : ¬ 512 < es.length := by
    intro h
    unfold snd at hs
    rw [if_pos h] at hs
    omega
  have hs' : sndGo s.size none es = 0 := by
    unfold snd at hs
    rw [if_neg hl] at hs
    exact hs
  constructor
  · unfold snd
    rw [if_neg (by rw [inv_len]; exact hl)]
    have := inv_snd s ⟨(apd s es).toArray⟩ es none none 0 0 [] (by omega) (by omega) (.inl ⟨rfl, rfl, rfl⟩) hs' (by simp) (by simp [apd])
    exact this
  · have := inv_pcs s ⟨(apd s es).toArray⟩ es none 0 0 [] (by omega) (by omega) (.inl ⟨rfl, rfl⟩) hs' (by simp) (by simp [apd])
    simpa [apd] using this

/-- How much longer edits make a text. -/
def grows : List Ed → Int
  | [] => 0
  | e :: r => grow e + grows r
theorem apd_grows (s : ByteArray) : ∀ (es : List Ed) (p : Option Int) (a : Int), 0 ≤ a → a ≤ s.size → ((p = none ∧ a = 0) ∨ p = some a) → sndGo s.size p es = 0 → ((pbs s (pcs s.size a es)).length : Int) = s.size - a + grows es
  | [], p, a, h0, h1, _, _ => by
    rw [pcs, lvb s a s.size h0 h1, List.length_take, List.length_drop, size_list]
    unfold grows
    omega
  | e :: r, p, a, h0, h1, hp, hs => by
    obtain ⟨g0, g1, g2, g3, g4, g5⟩ := sndGo_cons hs
    have hae : a ≤ e.f := near_pos (hp.imp (fun h => ⟨h.1, h.2, g0⟩) id) g4
    have k2 := apd_grows s r (some e.t) e.t (by omega) g2 (.inr rfl) g5
    rw [pcs, pbs_append, pbs_append, List.length_append, List.length_append, tx_bytes, size_list, lvb s a e.f h0 hae, List.length_take, List.length_drop, size_list]
    unfold grows grow
    omega
end Go.Proofs.Ytendbkbjmibchaa
