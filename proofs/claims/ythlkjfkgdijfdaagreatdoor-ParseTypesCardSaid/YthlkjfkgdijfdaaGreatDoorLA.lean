/- Mathematics: numbers and quoted strings, as the document's Lex goes through them. -/
import Derived.Test.YthlkjfkgdijfdaaGreatDoorXC
namespace Go.Proofs.YthlkjfkgdijfdaaGreatDoor
open Go.RowKit
/-- The document's way with a number's digits. -/
def refN : Nat → List UInt8 → Bool
  | _, [] => true
  | acc, c :: r => if 48 ≤ c.toNat ∧ c.toNat ≤ 57 then (if 9223372036854775807 < acc * 10 + (c.toNat - 48) then false else refN (acc * 10 + (c.toNat - 48)) r) else false
def finN : Lib.NumEnd Nat → Bool
  | .ok u => decide (u < 9223372036854775808)
  | _ => false
theorem uintM_big : ∀ (l : List UInt8) (acc : Nat), 9223372036854775808 ≤ acc → finN (Lib.parseUintM 18446744073709551615 acc l) = false
  | [], acc, h => by
    unfold Lib.parseUintM finN
    exact decide_eq_false (by omega)
  | c :: r, acc, h => by
    unfold Lib.parseUintM
    split
    · rw [if_pos (by omega)]; rfl
    · rfl
theorem uintM_ref : ∀ (l : List UInt8) (acc : Nat), acc < 9223372036854775808 → finN (Lib.parseUintM 18446744073709551615 acc l) = refN acc l
  | [], acc, h => by
    unfold Lib.parseUintM finN refN
    exact decide_eq_true h
  | c :: r, acc, h => by
    unfold Lib.parseUintM refN
    by_cases hd : 48 ≤ c.toNat ∧ c.toNat ≤ 57
    · rw [if_pos hd, if_pos hd]
      by_cases hb : 9223372036854775807 < acc * 10 + (c.toNat - 48)
      · rw [if_pos hb]
        split
        · rfl
        · split
          · rfl
          · exact uintM_big r _ (by omega)
      · rw [if_neg hb, if_neg (by omega), if_neg (by omega)]
        exact uintM_ref r _ (by omega)
    · rw [if_neg hd, if_neg hd]
      rfl
theorem numOk_ref {c : UInt8} {r : List UInt8} (hd : 48 ≤ c.toNat ∧ c.toNat ≤ 57) : numOk (c :: r) = refN 0 (c :: r) := by
  have h := uintM_ref (c :: r) 0 (by omega)
  rw [← h]
  unfold numOk Lib.parseIntB Lib.parseUintB
  have e1 : (if c.toNat = 43 ∨ c.toNat = 45 then r else c :: r) = c :: r := if_neg (by omega)
  dsimp only
  rw [e1, if_neg (by simp), show (2 : Nat) ^ 64 - 1 = 18446744073709551615 by decide]
  rcases Lib.parseUintM 18446744073709551615 0 (c :: r) with u | _ | _
  · dsimp only [finN]
    by_cases hu : u < 9223372036854775808
    · rw [decide_eq_true hu, if_neg (by omega), if_neg (by omega)]
    · rw [decide_eq_false hu, if_pos (by omega)]
  · rfl
  · rfl
theorem um_mem : ∀ (c : List UInt8) (sl : Bool) (o : List UInt8), um c sl = some o → ∀ x ∈ c, x ≠ 10
  | [], sl, o, h => by simp
  | b :: t, true, o, h => by
    rw [um] at h
    split at h
    · rename_i hm
      obtain ⟨o', h1, _⟩ := Option.map_eq_some_iff.1 h
      intro x hx
      rcases List.mem_cons.1 hx with rfl | hx
      · intro e; subst e; revert hm; decide
      · exact um_mem t false o' h1 x hx
    · cases h
  | b :: t, false, o, h => by
    rw [um] at h
    split at h
    · rename_i hb
      intro x hx
      rcases List.mem_cons.1 hx with rfl | hx
      · rw [hb]; decide
      · exact um_mem t true o h x hx
    · split at h
      · cases h
      · rename_i hb
        obtain ⟨o', h1, _⟩ := Option.map_eq_some_iff.1 h
        intro x hx
        rcases List.mem_cons.1 hx with rfl | hx
        · intro e; subst e; exact hb (.inl (by decide))
        · exact um_mem t false o' h1 x hx
/-- A line feed between quotes is none. -/
theorem unq_lf {L : List UInt8} {i : Nat} (h : L[i]? = some 10) : unq L = none := by
  unfold unq
  by_cases hc : L.length < 2 ∨ L.getD 0 0 ≠ 34 ∨ L.getD (L.length - 1) 0 ≠ 34
  · rw [if_pos hc]
  · rw [if_neg hc]
    have h1 : ¬ L.length < 2 := fun h => hc (.inl h)
    have h2 : L.getD 0 0 = 34 := Classical.byContradiction fun h => hc (.inr (.inl h))
    have h3 : L.getD (L.length - 1) 0 = 34 := Classical.byContradiction fun h => hc (.inr (.inr h))
    have hi : i < L.length := (List.getElem?_eq_some_iff.1 h).1
    have n0 : i ≠ 0 := by
      intro e; subst e
      rw [List.getD_eq_getElem?_getD, h] at h2
      exact absurd h2 (by decide)
    have n1 : i ≠ L.length - 1 := by
      intro e; subst e
      rw [List.getD_eq_getElem?_getD, h] at h3
      exact absurd h3 (by decide)
    cases hu : um ((L.drop 1).take (L.length - 2)) false with
    | none => rfl
    | some o =>
      refine absurd rfl (um_mem _ _ _ hu 10 (List.mem_of_getElem? (i := i - 1) ?_))
      rw [List.getElem?_take, if_pos (by omega), List.getElem?_drop, show 1 + (i - 1) = i by omega, h]
theorem um_open : ∀ (c : List UInt8) (st : Bool), runM sls qGo st (c ++ [34]) = c.length + 1 → um c st = none
  | [], st, h => by
    cases st with
    | true => rfl
    | false => revert h; decide
  | b :: t, st, h => by
    rw [List.cons_append, runM] at h
    split at h
    · simp only [List.length_cons] at h
      have h1 : runM sls qGo (sls st b.toNat) (t ++ [34]) = t.length + 1 := by omega
      have h2 := um_open t _ h1
      cases st with
      | true =>
        have e : sls true (b.toNat : Int) = false := by unfold sls; simp
        rw [e] at h2
        rw [um, h2]
        split <;> rfl
      | false =>
        rw [um]
        by_cases hb : b = 92
        · have e : sls false (b.toNat : Int) = true := by subst hb; decide
          rw [e] at h2
          rw [if_pos hb, h2]
        · have e : sls false (b.toNat : Int) = false := by
            unfold sls
            have : ¬ ((b.toNat : Int) = 92) := fun h => hb (UInt8.toNat_inj.1 (by
              have : b.toNat = 92 := by omega
              rw [this]; rfl))
            simp [this]
          rw [e] at h2
          rw [if_neg hb, h2]
          split <;> rfl
    · omega
/-- A quote that is never shut is none. -/
theorem unq_open {m : List UInt8} (h : runM sls qGo false m = m.length) : unq (34 :: m) = none := by
  unfold unq
  by_cases hc : (34 :: m).length < 2 ∨ (34 :: m).getD 0 0 ≠ 34 ∨ (34 :: m).getD ((34 :: m).length - 1) 0 ≠ 34
  · rw [if_pos hc]
  · rw [if_neg hc]
    have h1 : ¬ (34 :: m).length < 2 := fun h => hc (.inl h)
    have h3 : (34 :: m).getD ((34 :: m).length - 1) 0 = 34 := Classical.byContradiction fun h => hc (.inr (.inr h))
    have hne : m ≠ [] := fun e => by subst e; simp at h1
    simp only [List.length_cons] at h1 h3 ⊢
    have hl : m.getLast hne = 34 := by
      rw [List.getLast_eq_getElem]
      have hp : 0 < m.length := List.length_pos_iff.2 hne
      rw [show m.length + 1 - 1 = (m.length - 1) + 1 by omega, List.getD_cons_succ, List.getD_eq_getElem?_getD, List.getElem?_eq_getElem (by omega)] at h3
      exact h3
    have hm : m = m.dropLast ++ [34] := by rw [← hl]; exact (List.dropLast_concat_getLast hne).symm
    have e : ((34 :: m).drop 1).take (m.length + 1 - 2) = m.dropLast := by
      rw [List.drop_one, List.tail_cons, List.dropLast_eq_take]
      congr 1
    rw [e]
    refine um_open _ _ ?_
    rw [← hm, h]
    have hp : 0 < m.length := List.length_pos_iff.2 hne
    rw [List.length_dropLast]
    omega
end Go.Proofs.YthlkjfkgdijfdaaGreatDoor
