/- Mathematics: what a text behind another one comes to, lexed and read. -/
import Derived.Test.YthlkjfkgdijfdaaGreatDoorHQ
import Derived.Test.YthlkjfkgdijfdaaGreatDoorAGB
import Derived.Test.YthlkjfkgdijfdaaGreatDoorParsePartsWalk
namespace Go.Proofs.YthlkjfkgdijfdaaGreatDoor
open Go.RowKit
/-- Each token but the last takes a byte. -/
theorem lexF_few (s : ByteArray) : ∀ (f k n : Nat) (l : List Tok), k ≤ s.size → lexF s f k n = .good l → l.length + k ≤ s.size + 1
  | 0, k, n, l, _, h => by simp [lexF] at h
  | f + 1, k, n, l, hk, h => by
    by_cases he : errK s k = 0
    · by_cases hn : n = 4000
      · subst hn; rw [lexF_many he] at h; cases h
      · by_cases h0 : (tokK s k).kind = 0
        · rw [lexF_end he hn h0] at h
          cases h
          simp only [List.length_cons, List.length_nil]
          omega
        · rw [lexF_next he hn h0] at h
          cases hr : lexF s f (endK s k) (n + 1) with
          | bad e a => rw [hr] at h; cases h
          | good B =>
            rw [hr] at h
            cases h
            have h2 := lexF_few s f _ _ B (endK_le s k hk).2 hr
            have h3 := tok_pos s k he h0
            have h4 := (atK_le s k hk).1
            simp only [List.cons_append, List.nil_append, List.length_cons]
            omega
    · rw [lexF_err he] at h; cases h
theorem lexR_key {x : ByteArray} {L : List Tok} (h : lexR x = .good L) : badAt x.data.toList = none ∧ lexF x (x.size + 1) 0 0 = .good L := by
  unfold lexR at h
  split at h
  · cases h
  · by_cases hx : badAt x.data.toList = none
    · rw [if_neg (by simp [hx])] at h
      exact ⟨hx, h⟩
    · rw [if_pos hx] at h; cases h
theorem lexR_few {s : ByteArray} {l : List Tok} (h : lexR s = .good l) : l.length ≤ s.size + 1 := by
  have := lexF_few s _ _ _ _ (Nat.zero_le _) (lexR_key h).2
  omega
section
variable {s t u : ByteArray} (hu : u.data.toList = s.data.toList ++ 10 :: t.data.toList)
include hu
theorem ag_behind_many : ∀ (f j k n n' : Nat) (B : List Tok) (f' : Nat), atK u k = s.size + 1 + atK t j → lexF t f j n' = .good B → n ≤ 4000 → 4000 < n + B.length → f ≤ f' → ∃ a, lexF u f' k n = .bad 5 a
  | 0, j, k, n, n', B, f', h, hB, _, hn, hf => by simp [lexF] at hB
  | f + 1, j, k, n, n', B, 0, h, hB, _, hn, hf => by omega
  | f + 1, j, k, n, n', B, f' + 1, h, hB, hm, hn, hf => by
    obtain ⟨e1, e2, e3, e4⟩ := ag_tok hu k j h
    by_cases he : errK t j = 0
    · by_cases hn4 : n' = 4000
      · subst hn4; rw [lexF_many he] at hB; cases hB
      · by_cases hq : n = 4000
        · subst hq; exact ⟨_, lexF_many (by rw [e1, he])⟩
        · by_cases h0 : (tokK t j).kind = 0
          · rw [lexF_end he hn4 h0] at hB
            cases hB
            simp only [List.length_cons, List.length_nil] at hn
            omega
          · rw [lexF_next he hn4 h0] at hB
            cases hr : lexF t f (endK t j) (n' + 1) with
            | bad e a => rw [hr] at hB; cases hB
            | good B' =>
              rw [hr] at hB
              cases hB
              simp only [List.cons_append, List.nil_append, List.length_cons] at hn
              have ha : atK u (endK u k) = s.size + 1 + atK t (endK t j) := by
                unfold atK
                rw [e4, ag_rear hu]
                omega
              obtain ⟨a, hC⟩ := ag_behind_many f (endK t j) (endK u k) (n + 1) (n' + 1) B' f' ha hr (by omega) (by omega) (by omega)
              refine ⟨a, ?_⟩
              rw [lexF_next (by rw [e1, he]) hq (by rw [e2]; exact h0), hC]
              rfl
    · rw [lexF_err he] at hB; cases hB
theorem ag_both_many (ft : Nat) (B : List Tok) (hB : lexF t ft 0 0 = .good B) : ∀ (f k n n' : Nat) (A : List Tok) (f' : Nat), k ≤ s.size → lexF s f k n' = .good A → n ≤ 4000 → 4001 < n + A.length + B.length → s.size + ft ≤ f' + k →
    ∃ a, lexF u f' k n = .bad 5 a
  | 0, k, n, n', A, f', hk, hA, _, hn, hf => by simp [lexF] at hA
  | f + 1, k, n, n', A, f', hk, hA, hm, hn, hf => by
    have hft : 0 < ft := by
      cases ft with
      | zero => simp [lexF] at hB
      | succ n => omega
    by_cases he : errK s k = 0
    · by_cases hn4 : n' = 4000
      · subst hn4; rw [lexF_many he] at hA; cases hA
      · by_cases h0 : (tokK s k).kind = 0
        · rw [lexF_end he hn4 h0] at hA
          cases hA
          simp only [List.length_cons, List.length_nil] at hn
          have hall : atK s k = s.size := by
            have h1 := (first_kind (tl s (atK s k)) he).1.1 h0
            have h2 := tl_len s (atK s k)
            rw [h1] at h2
            have h3 := (atK_le s k hk).2
            simp at h2
            omega
          have ha : atK u k = s.size + 1 + atK t 0 := by
            have hl : lLen (tl s k) = (tl s k).length := by
              rw [tl_len]
              unfold atK at hall
              omega
            unfold atK
            rw [ag_fore hu k hk]
            have := lead_feed false (tl s k) t.data.toList hl
            unfold lLen at this ⊢
            rw [this, tl_len, tl_zero]
            omega
          exact ag_behind_many hu ft 0 k n 0 B f' ha hB hm (by omega) (by omega)
        · rw [lexF_next he hn4 h0] at hA
          cases hr : lexF s f (endK s k) (n' + 1) with
          | bad e a => rw [hr] at hA; cases hA
          | good A' =>
            rw [hr] at hA
            cases hA
            simp only [List.cons_append, List.nil_append, List.length_cons] at hn
            obtain ⟨e1, e2, e3⟩ := ag_same hu k hk he h0
            have hpos := tok_pos s k he h0
            have hend := endK_le s k hk
            have ha := atK_le s k hk
            cases f' with
            | zero => omega
            | succ f' =>
              by_cases hq : n = 4000
              · subst hq; exact ⟨_, lexF_many (by rw [e1, he])⟩
              · obtain ⟨a, hC⟩ := ag_both_many ft B hB f (endK s k) (n + 1) (n' + 1) A' f' hend.2 hr (by omega) (by omega) (by omega)
                refine ⟨a, ?_⟩
                rw [lexF_next (by rw [e1, he]) hq (by rw [e2]; exact h0), e3, hC]
                rfl
    · rw [lexF_err he] at hA; cases hA
/-- What the whole comes to: the tokens of both, or too many. -/
theorem ag_all {A B : List Tok} (hA : lexR s = .good A) (hB : lexR t = .good B) : (∃ C, lexR u = .good C ∧ C.map kt = (A.dropLast ++ B).map kt) ∨ ((∃ a, lexR u = .bad 5 a) ∧ 3000 < s.size + t.size) := by
  have hsz := ag_size hu
  obtain ⟨a1, a2⟩ := lexR_key hA
  obtain ⟨b1, b2⟩ := lexR_key hB
  have hfa := lexR_few hA
  have hfb := lexR_few hB
  by_cases h1 : s.size + t.size < 16384
  · have hg : badAt u.data.toList = none := by
      rw [hu]
      refine good_app a1 ?_
      exact good_app (l := [10]) (ascii_good _ (by decide)) b1
    have hl : ∀ x, lexF u (u.size + 1) 0 0 = x → lexR u = x := fun x hx => by
      unfold lexR
      rw [if_neg (by omega), if_neg (by simp [hg])]
      exact hx
    by_cases h2 : A.length + B.length ≤ 4001
    · obtain ⟨C, hC, hm⟩ := ag_both hu (t.size + 1) B b2 (s.size + 1) 0 0 0 A (u.size + 1) (by omega) a2 (by omega) (by omega)
      exact .inl ⟨C, hl _ hC, hm⟩
    · obtain ⟨a, ha⟩ := ag_both_many hu (t.size + 1) B b2 (s.size + 1) 0 0 0 A (u.size + 1) (by omega) a2 (by omega) (by omega) (by omega)
      exact .inr ⟨⟨a, hl _ ha⟩, by omega⟩
  · refine .inr ⟨⟨16384, ?_⟩, by omega⟩
    unfold lexR
    rw [if_pos (by omega)]
end
namespace Pg
open Ps
theorem kt_nth {C D : List Tok} (h : C.map kt = D.map kt) (j : Nat) : (C[j]?).map kt = (D[j]?).map kt := by
  rw [← List.getElem?_map, h, List.getElem?_map]
theorem sim_nth {C A : List Tok} {i j : Nat} (h : (C[i]?).map kt = (A[j]?).map kt) : (∀ x, isM C i x = isM A j x) ∧ kindAt C i = kindAt A j ∧ textAt C i = textAt A j := by
  unfold isM kindAt textAt
  cases hc : C[i]? with
  | none =>
    rw [hc] at h
    cases ha : A[j]? with
    | none => exact ⟨fun _ => rfl, rfl, rfl⟩
    | some a => rw [ha] at h; cases h
  | some c =>
    rw [hc] at h
    cases ha : A[j]? with
    | none => rw [ha] at h; cases h
    | some a =>
      rw [ha] at h
      simp only [Option.map_some, Option.some.injEq, kt, Prod.mk.injEq] at h
      simp only [Option.map_some, Option.getD_some, h.1, h.2, and_self, implies_true]
theorem eqv_trans : ∀ {a b c : Fo}, Eqv false a b → Eqv false b c → Eqv false a c
  | .nil, .nil, .nil, _, _ => trivial
  | .nil, .nil, .cons .., _, h => h.elim
  | .nil, .cons .., _, h, _ => h.elim
  | .cons .., .nil, _, h, _ => h.elim
  | .cons .., .cons .., .nil, _, h => h.elim
  | .cons .., .cons .., .cons .., h, g => ⟨⟨h.1.1.trans g.1.1, h.1.2.1.trans g.1.2.1, fun h => by cases h⟩, eqv_trans h.2.1 g.2.1, eqv_trans h.2.2 g.2.2⟩
/-- The whole is read as both are. -/
theorem joins_parse {A B C : List Tok} {hA hB : Hd} {kA kB : Fo} (WA : Wf2 A) (WB : Wf2 B) (WC : Wf2 C) (hm : C.map kt = (A.dropLast ++ B).map kt) (pA : parseM A = .ok hA kA) (pB : parseM B = .ok hB kB) :
    ∃ hC kC, parseM C = .ok hC kC ∧ Eqv false (kA.app kB) kC := by
  obtain ⟨q, hq, q1, _, rfl, q3, q4⟩ := parse_ok WA pA
  obtain ⟨y, hy, y1, _, rfl, y3, y4⟩ := parse_ok WB pB
  have hlen : C.length = (A.length - 1) + B.length := by
    have := congrArg List.length hm
    simp only [List.length_map, List.length_append, List.length_dropLast] at this
    exact this
  have SA : Sim A C 0 (A.length - 1) := by
    have key : ∀ j, j < A.length - 1 → (C[j + 0]?).map kt = (A[j]?).map kt := fun j hj => by
      rw [Nat.add_zero, kt_nth hm, List.getElem?_append_left (by rw [List.length_dropLast]; exact hj), List.getElem?_dropLast, if_pos hj]
    exact ⟨fun j hj => (sim_nth (key j hj)).1, fun j hj => (sim_nth (key j hj)).2.1, fun j hj => (sim_nth (key j hj)).2.2⟩
  have SB : Sim B C (A.length - 1) B.length := by
    have key : ∀ j, j < B.length → (C[j + (A.length - 1)]?).map kt = (B[j]?).map kt := fun j hj => by
      rw [kt_nth hm, List.getElem?_append_right (by rw [List.length_dropLast]; omega), List.length_dropLast, Nat.add_sub_cancel]
    exact ⟨fun j hj => (sim_nth (key j hj)).1, fun j hj => (sim_nth (key j hj)).2.1, fun j hj => (sim_nth (key j hj)).2.2⟩
  obtain ⟨k2, e2, z2⟩ := items_s SB _ _ _ _ hy y1 (by omega)
  rw [Nat.zero_add] at e2
  obtain ⟨k3, e3, z3⟩ := items_cat SA e2 _ _ _ _ hq rfl q1 (by omega)
  obtain ⟨x, hx, _⟩ := items_some WC.toWf
  have hxe := items_det hx e3
  subst hxe
  have hz : Eqv false (q.1.app y.1) k3 := eqv_trans (Ps.Eqv.app (Eqv.refl _ _) z2) z3
  have hdp := Ps.Eqv.deep hz
  rw [Fo.deep_app] at hdp
  refine ⟨⟨1, 0, y.2.1 + (A.length - 1), e0, 0⟩, k3, ?_, hz⟩
  unfold parseM
  rw [hx]
  dsimp only
  unfold wholeM
  rw [if_neg (by dsimp only; omega), if_neg (by dsimp only; omega)]
  simp only [Fo.one]
  rw [if_neg (by omega)]
end Pg
end Go.Proofs.YthlkjfkgdijfdaaGreatDoor
