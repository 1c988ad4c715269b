import Derived.Test.YthjflofcgdfekaaGreatDoorMAV
import Derived.Deep.LoopGhost
import Derived.Deep.CutRange
import Derived.Deep.OwnRows
namespace Go.Proofs.YthjflofcgdfekaaGreatDoor
namespace Ps
variable {l : List Tok}
theorem wantM_bad {b : Int} {i : Nat} {x : List UInt8} (h : 0 ≤ b) : wantM l b i x = (i, b) := by unfold wantM; rw [if_pos h]
theorem wordM_bad {b : Int} {i : Nat} {hd : Hd} (h : 0 ≤ b) : wordM l b hd i = (hd, i, b) := by unfold wordM; rw [if_pos h]
theorem wantM_good {b : Int} {i : Nat} {x : List UInt8} (h : (wantM l b i x).2 < 0) : b < 0 ∧ isM l i x = true ∧ wantM l b i x = (i + 1, b) := by
  unfold wantM at h ⊢
  split at h
  · exact absurd h (by dsimp only; omega)
  · split at h
    · rename_i h1 h2
      rw [if_neg h1, if_pos h2]
      exact ⟨by omega, h2, rfl⟩
    · exact absurd h (by dsimp only; omega)
theorem wordM_good {b : Int} {i : Nat} {hd : Hd} (h : (wordM l b hd i).2.2 < 0) : b < 0 ∧ kindAt l i = 1 ∧ wordM l b hd i = ({ hd with word := textAt l i, at_ := i }, i + 1, b) := by
  unfold wordM at h ⊢
  split at h
  · exact absurd h (by dsimp only; omega)
  · split at h
    · rename_i h1 h2
      rw [if_neg h1, if_pos h2]
      exact ⟨by omega, h2, rfl⟩
    · exact absurd h (by dsimp only; omega)
theorem tyM_bad {f : Nat} {t : TT} {b : Int} {i : Nat} {r : Fo × Nat × Int} (hb : 0 ≤ b) (h : tyM l f t b i = some r) : r.2.2 = b := by
  have hb' : ¬ b < 0 := by omega
  cases f with
  | zero => rw [tyM] at h; cases h
  | succ f =>
    cases t with
    | kind => rw [tyM, if_pos hb] at h; injection h with h; rw [← h]
    | recL first => rw [tyM, if_neg (fun hh => hb' hh.1)] at h; injection h with h; rw [← h]
    | fnL first => rw [tyM, if_neg (fun hh => hb' hh.1)] at h; injection h with h; rw [← h]
theorem typedM_bad {f : Nat} {b : Int} {i : Nat} {r : Fo × Nat × Int} (hb : 0 ≤ b) (h : typedM l f b i = some r) : r.2.2 = b := by
  unfold typedM at h
  rw [if_pos (.inl hb)] at h
  injection h with h; rw [← h]
theorem parL_bad {f : Nat} {first : Bool} {b : Int} {i : Nat} {r : Fo × Nat × Int} (hb : 0 ≤ b) (h : parL l f first b i = some r) : r.2.2 = b := by
  have hb' : ¬ b < 0 := by omega
  cases f with
  | zero => rw [parL] at h; cases h
  | succ f => rw [parL, if_neg (fun hh => hb' hh.1)] at h; injection h with h; rw [← h]
theorem paramsM_bad {f : Nat} {b : Int} {i : Nat} {r : Fo × Nat × Int} (hb : 0 ≤ b) (h : paramsM l f b i = some r) : r.2.2 = b := by
  unfold paramsM at h
  dsimp only at h
  rw [wantM_bad hb] at h
  obtain ⟨x, h1, h2⟩ := Option.bind_eq_some_iff.1 h
  have h3 := parL_bad hb h1
  rw [wantM_bad (by omega)] at h2
  injection h2 with h2
  rw [← h2]; exact h3
theorem exM_bad : ∀ (f : Nat) (t : XT) (b : Int) (i : Nat) (r : Fo × Nat × Int), 0 ≤ b → exM l f t b i = some r → r.2.2 = b := by
  intro f
  induction f with
  | zero => intro t b i r _ h; rw [exM] at h; cases h
  | succ f ih =>
    intro t b i r hb h
    have hb' : ¬ b < 0 := by omega
    cases t with
    | lambda =>
      rw [exM] at h
      obtain ⟨p, h1, h⟩ := Option.bind_eq_some_iff.1 h
      obtain ⟨t, h2, h⟩ := Option.bind_eq_some_iff.1 h
      obtain ⟨k, h3, h⟩ := Option.bind_eq_some_iff.1 h
      have e1 := paramsM_bad hb h1
      have e2 := typedM_bad (by omega) h2
      have e3 := ih _ _ _ _ (by omega) h3
      injection h with h; rw [← h]; dsimp only; omega
    | block =>
      rw [exM] at h
      dsimp only at h
      rw [wantM_bad hb] at h
      obtain ⟨x, h1, h⟩ := Option.bind_eq_some_iff.1 h
      have e1 := ih _ _ _ _ hb h1
      rw [wantM_bad (by omega)] at h
      injection h with h; rw [← h]; exact e1
    | stmts => rw [exM, if_neg (fun hh => hb' hh.1)] at h; injection h with h; rw [← h]
    | stmt =>
      rw [exM] at h
      split at h
      · obtain ⟨c, h1, h⟩ := Option.bind_eq_some_iff.1 h
        obtain ⟨k, h2, h⟩ := Option.bind_eq_some_iff.1 h
        have e1 := ih _ _ _ _ hb h1
        have e2 := ih _ _ _ _ (by omega) h2
        rw [if_neg (fun hh => by have := hh.1; omega)] at h
        injection h with h; rw [← h]; dsimp only; omega
      · split at h
        · obtain ⟨c, h1, h⟩ := Option.bind_eq_some_iff.1 h
          obtain ⟨k, h2, h⟩ := Option.bind_eq_some_iff.1 h
          have e1 := ih _ _ _ _ hb h1
          have e2 := ih _ _ _ _ (by omega) h2
          injection h with h; rw [← h]; dsimp only; omega
        · split at h
          · dsimp only at h
            rw [wordM_bad hb] at h
            obtain ⟨t, h1, h⟩ := Option.bind_eq_some_iff.1 h
            have e1 := typedM_bad hb h1
            rw [wantM_bad (by omega)] at h
            obtain ⟨v, h2, h⟩ := Option.bind_eq_some_iff.1 h
            have e2 := ih _ _ _ _ (by omega) h2
            rw [wantM_bad (by omega)] at h
            injection h with h; rw [← h]; dsimp only; omega
          · dsimp only at h
            rw [wordM_bad hb] at h
            obtain ⟨v, h2, h⟩ := Option.bind_eq_some_iff.1 h
            have key : ∀ (c1 c2 c3 : Prop) [Decidable c1] [Decidable c2] [Decidable c3] (u1 u2 u3 u4 : Hd × Nat), (if c1 then (u1.1, u1.2, b) else if c2 then (u2.1, u2.2, b) else if c3 then (u3.1, u3.2, b) else (u4.1, u4.2, b)).2.2 = b := by
              intro c1 c2 c3 _ _ _ u1 u2 u3 u4
              split
              · rfl
              · split
                · rfl
                · split <;> rfl
            have k1 := key (isM l i kPrint = true) (isM l i kReturn = true) (kindAt l i = 1 ∧ isM l (i + 1) sEq = true) (⟨11, i, 0, e0, 0⟩, i + 1) (⟨12, i, 0, e0, 0⟩, i + 1) (⟨8, i, 0, e0, 0⟩, i + 1) (⟨13, i, 0, e0, 0⟩, i)
            dsimp only at k1
            have e2 := ih _ _ _ _ (by rw [k1]; exact hb) h2
            rw [k1] at e2
            rw [wantM_bad (by omega)] at h
            injection h with h; rw [← h]; dsimp only; omega
    | expr =>
      rw [exM] at h
      obtain ⟨a, h1, h⟩ := Option.bind_eq_some_iff.1 h
      have e1 := ih _ _ _ _ hb h1
      rw [if_pos (.inl (by omega))] at h
      injection h with h; rw [← h]; exact e1
    | sum =>
      rw [exM] at h
      obtain ⟨a, h1, h⟩ := Option.bind_eq_some_iff.1 h
      have e1 := ih _ _ _ _ hb h1
      have e2 := ih _ _ _ _ (by omega) h
      omega
    | sumL a => rw [exM, if_neg (fun hh => hb' hh.1)] at h; injection h with h; rw [← h]
    | term =>
      rw [exM] at h
      obtain ⟨a, h1, h⟩ := Option.bind_eq_some_iff.1 h
      have e1 := ih _ _ _ _ hb h1
      have e2 := ih _ _ _ _ (by omega) h
      omega
    | termL a => rw [exM, if_neg (fun hh => hb' hh.1)] at h; injection h with h; rw [← h]
    | post =>
      rw [exM] at h
      obtain ⟨a, h1, h⟩ := Option.bind_eq_some_iff.1 h
      have e1 := ih _ _ _ _ hb h1
      have e2 := ih _ _ _ _ (by omega) h
      omega
    | postL a => rw [exM, if_neg (fun hh => hb' hh.1)] at h; injection h with h; rw [← h]
    | args first => rw [exM, if_neg (fun hh => hb' hh.1)] at h; injection h with h; rw [← h]
    | atom => rw [exM, if_pos hb] at h; injection h with h; rw [← h]
    | entries first => rw [exM, if_neg (fun hh => hb' hh.1)] at h; injection h with h; rw [← h]
theorem exM_was {f : Nat} {t : XT} {b : Int} {i : Nat} {r : Fo × Nat × Int} (h : exM l f t b i = some r) (hr : r.2.2 < 0) : b < 0 := by
  by_cases hb : 0 ≤ b
  · have := exM_bad f t b i r hb h; omega
  · omega
def fromOf : XT → Nat → Option Nat
  | .expr, i | .sum, i | .term, i | .post, i | .atom, i => some i
  | .sumL a, _ | .termL a, _ | .postL a, _ => some a.from_
  | _, _ => none
theorem Fo.from_one (h : Hd) (k : Fo) : (Fo.one h k).from_ = h.fro := rfl
theorem exM_from : ∀ (f : Nat) (t : XT) (b : Int) (i : Nat) (r : Fo × Nat × Int) (n : Nat), fromOf t i = some n → exM l f t b i = some r → r.2.2 < 0 → r.1.from_ = n := by
  intro f
  induction f with
  | zero => intro t b i r n _ h; rw [exM] at h; cases h
  | succ f ih =>
    intro t b i r n hn h hr
    cases t with
    | expr =>
      injection hn with hn
      rw [exM] at h
      obtain ⟨a, h1, h⟩ := Option.bind_eq_some_iff.1 h
      split at h
      · injection h with h; subst h; exact ih .sum _ _ _ n (by rw [← hn]; rfl) h1 hr
      · rename_i hc
        obtain ⟨c, h2, h⟩ := Option.bind_eq_some_iff.1 h
        injection h with h
        have := ih .sum _ _ _ n (by rw [← hn]; rfl) h1 (by omega)
        rw [← h]; exact this
    | sum =>
      injection hn with hn
      rw [exM] at h
      obtain ⟨a, h1, h⟩ := Option.bind_eq_some_iff.1 h
      have h0 := exM_was h hr
      rw [ih _ _ _ _ _ rfl h hr]
      exact ih .term _ _ _ n (by rw [← hn]; rfl) h1 h0
    | term =>
      injection hn with hn
      rw [exM] at h
      obtain ⟨a, h1, h⟩ := Option.bind_eq_some_iff.1 h
      have h0 := exM_was h hr
      rw [ih _ _ _ _ _ rfl h hr]
      exact ih .post _ _ _ n (by rw [← hn]; rfl) h1 h0
    | post =>
      injection hn with hn
      rw [exM] at h
      obtain ⟨a, h1, h⟩ := Option.bind_eq_some_iff.1 h
      have h0 := exM_was h hr
      rw [ih _ _ _ _ _ rfl h hr]
      exact ih .atom _ _ _ n (by rw [← hn]; rfl) h1 h0
    | sumL a =>
      injection hn with hn
      rw [exM] at h
      split at h
      · obtain ⟨c, h1, h⟩ := Option.bind_eq_some_iff.1 h
        rw [ih _ _ _ _ _ rfl h hr, Fo.from_one]; exact hn
      · injection h with h; rw [← h]; exact hn
    | termL a =>
      injection hn with hn
      rw [exM] at h
      split at h
      · obtain ⟨c, h1, h⟩ := Option.bind_eq_some_iff.1 h
        rw [ih _ _ _ _ _ rfl h hr, Fo.from_one]; exact hn
      · injection h with h; rw [← h]; exact hn
    | postL a =>
      injection hn with hn
      rw [exM] at h
      split at h
      · split at h
        · dsimp only at h
          have h0 := exM_was h hr
          rw [ih _ _ _ _ _ rfl h hr, Fo.from_one]
          dsimp only
          rw [(wordM_good h0).2.2]
          exact hn
        · obtain ⟨k, h1, h⟩ := Option.bind_eq_some_iff.1 h
          dsimp only at h
          rw [ih _ _ _ _ _ rfl h hr, Fo.from_one]; exact hn
      · injection h with h; rw [← h]; exact hn
    | atom =>
      injection hn with hn
      rw [exM] at h
      split at h
      · injection h with h; rw [← h] at hr; exact absurd hr (by dsimp only; omega)
      · split at h
        · injection h with h; rw [← h]; exact hn
        · split at h
          · injection h with h; rw [← h]; exact hn
          · split at h
            · injection h with h; rw [← h]; exact hn
            · split at h
              · injection h with h; rw [← h]; exact hn
              · split at h
                · obtain ⟨k, h1, h⟩ := Option.bind_eq_some_iff.1 h
                  injection h with h; rw [← h]; exact hn
                · split at h
                  · obtain ⟨k, h1, h⟩ := Option.bind_eq_some_iff.1 h
                    injection h with h; rw [← h]; exact hn
                  · dsimp only at h
                    obtain ⟨k, h1, h⟩ := Option.bind_eq_some_iff.1 h
                    injection h with h; rw [← h]; exact hn
    | lambda => cases hn
    | block => cases hn
    | stmts => cases hn
    | stmt => cases hn
    | args first => cases hn
    | entries first => cases hn
abbrev RT := Nat → Int → Nat → Res
def listM (l : List Tok) (R : RT) (last : List UInt8) : Nat → Bool → Int → Nat → Res
  | 0, _, _, _ => none
  | f + 1, first, b, at_ =>
    if b < 0 ∧ ¬ (first = true ∧ isM l at_ last = true) then
      (R f b at_).bind fun t =>
        if 0 ≤ t.2.2 ∨ isM l t.2.1 last = true then some (t.1, t.2.1, t.2.2)
        else
          let y2 := wantM l t.2.2 t.2.1 sCom
          (listM l R last f false y2.2 y2.1).pre t.1
    else some (.nil, at_, b)
def labR (l : List Tok) (kd : Nat) (Q : RT) : RT := fun f b at_ =>
  let x := wordM l b ⟨kd, at_, 0, e0, 0⟩ at_
  let y := wantM l x.2.2 x.2.1 sCol
  (Q f y.2 y.1).bind fun t => some (.one { x.1 with til := t.2.1 } t.1, t.2.1, t.2.2)
def parR (l : List Tok) : RT := fun f b at_ =>
  let x := wordM l b ⟨5, at_, 0, e0, 0⟩ at_
  (typedM l f x.2.2 x.2.1).bind fun t => some (.one { x.1 with til := t.2.1 } t.1, t.2.1, t.2.2)
theorem args_list : ∀ (f : Nat) (first : Bool) (b : Int) (i : Nat), exM l f (.args first) b i = listM l (fun f => exM l f .expr) sParS f first b i
  | 0, _, _, _ => by rw [exM, listM]
  | f + 1, first, b, i => by
    rw [exM, listM]
    simp only [args_list f]
theorem entries_list : ∀ (f : Nat) (first : Bool) (b : Int) (i : Nat), exM l f (.entries first) b i = listM l (labR l 27 (fun f => exM l f .expr)) sShut f first b i
  | 0, _, _, _ => by rw [exM, listM]
  | f + 1, first, b, i => by
    rw [exM, listM]
    simp only [entries_list f, labR, Option.bind_assoc, Option.bind_some]
theorem par_list : ∀ (f : Nat) (first : Bool) (b : Int) (i : Nat), parL l f first b i = listM l (parR l) sParS f first b i
  | 0, _, _, _ => by rw [parL, listM]
  | f + 1, first, b, i => by
    rw [parL, listM]
    simp only [par_list f, parR, Option.bind_assoc, Option.bind_some]
theorem rec_list : ∀ (f : Nat) (first : Bool) (b : Int) (i : Nat), tyM l f (.recL first) b i = listM l (labR l 33 (fun f => tyM l f .kind)) sShut f first b i
  | 0, _, _, _ => by rw [tyM, listM]
  | f + 1, first, b, i => by
    rw [tyM, listM]
    simp only [rec_list f, labR, Option.bind_assoc, Option.bind_some]
theorem fn_list : ∀ (f : Nat) (first : Bool) (b : Int) (i : Nat), tyM l f (.fnL first) b i = listM l (fun f => tyM l f .kind) sParS f first b i
  | 0, _, _, _ => by rw [tyM, listM]
  | f + 1, first, b, i => by
    rw [tyM, listM]
    simp only [fn_list f]
def restM (l : List Tok) (R : RT) (last : List UInt8) (f : Nat) (b : Int) (i : Nat) : Res :=
  if 0 ≤ b ∨ isM l i last = true then some (.nil, i, b)
  else listM l R last f false (wantM l b i sCom).2 (wantM l b i sCom).1
theorem list_step {R : RT} {last : List UInt8} {f : Nat} {first : Bool} {b : Int} {i : Nat} {r : Fo × Nat × Int} (h : listM l R last f first b i = some r) (hb : b < 0) (hl : ¬ (first = true ∧ isM l i last = true)) :
    ∃ f' t r', f = f' + 1 ∧ R f' b i = some t ∧ restM l R last f' t.2.2 t.2.1 = some r' ∧ r = (t.1.app r'.1, r'.2) := by
  cases f with
  | zero => rw [listM] at h; cases h
  | succ f =>
    rw [listM, if_pos ⟨hb, hl⟩] at h
    obtain ⟨t, h1, h2⟩ := Option.bind_eq_some_iff.1 h
    unfold restM
    by_cases hc : 0 ≤ t.2.2 ∨ isM l t.2.1 last = true
    · rw [if_pos hc] at h2
      injection h2 with h2
      exact ⟨f, t, (.nil, t.2.1, t.2.2), rfl, h1, by rw [if_pos hc], by rw [← h2, Fo.app_nil]⟩
    · rw [if_neg hc] at h2
      obtain ⟨r', h3, h4⟩ := Option.map_eq_some_iff.1 h2
      exact ⟨f, t, r', rfl, h1, by rw [if_neg hc]; exact h3, h4.symm⟩
theorem list_first {R : RT} {last : List UInt8} {f : Nat} {b : Int} {i : Nat} {r : Fo × Nat × Int} (h : listM l R last f true b i = some r) (hl : isM l i last = true) : r = (.nil, i, b) := by
  cases f with
  | zero => rw [listM] at h; cases h
  | succ f => rw [listM, if_neg (fun hh => hh.2 ⟨rfl, hl⟩)] at h; injection h with h; exact h.symm
theorem list_bad {R : RT} {last : List UInt8} {f : Nat} {first : Bool} {b : Int} {i : Nat} {r : Fo × Nat × Int} (h : listM l R last f first b i = some r) (hb : 0 ≤ b) : r = (.nil, i, b) := by
  cases f with
  | zero => rw [listM] at h; cases h
  | succ f => rw [listM, if_neg (fun hh => by omega)] at h; injection h with h; exact h.symm
theorem isM_ne {i : Nat} {x y : List UInt8} (h : isM l i x = true) (hn : x ≠ y) : isM l i y = false := by
  unfold isM at h ⊢
  cases hl : l[i]? with
  | none => rfl
  | some t =>
    rw [hl] at h
    simp only [Bool.and_eq_true, beq_iff_eq] at h
    have : (t.text.data.toList == y) = false := by rw [beq_eq_false_iff_ne, h.2]; exact hn
    simp only [this, Bool.and_false]
theorem rest_stop {R : RT} {last : List UInt8} {f : Nat} {b : Int} {i : Nat} {r : Fo × Nat × Int} (h : restM l R last f b i = some r) (hc : 0 ≤ b ∨ isM l i sCom = false) : r.1 = .nil ∧ wantM l r.2.2 r.2.1 last = wantM l b i last := by
  unfold restM at h
  split at h
  · injection h with h; rw [← h]; exact ⟨rfl, rfl⟩
  · rename_i h1
    have hb : ¬ 0 ≤ b := fun hh => h1 (.inl hh)
    have hl : ¬ isM l i last = true := fun hh => h1 (.inr hh)
    have hcc : isM l i sCom = false := hc.resolve_left hb
    have hw : wantM l b i sCom = (i, (i : Int)) := by unfold wantM; rw [if_neg hb, hcc, if_neg (by simp)]
    rw [hw] at h
    have := list_bad h (by dsimp only; omega)
    rw [this]
    refine ⟨rfl, ?_⟩
    dsimp only
    rw [wantM_bad (by omega)]
    unfold wantM
    rw [if_neg hb, if_neg hl]
theorem rest_go {R : RT} {last : List UInt8} {f : Nat} {b : Int} {i : Nat} {r : Fo × Nat × Int} (h : restM l R last f b i = some r) (hb : b < 0) (hc : isM l i sCom = true) (hn : sCom ≠ last) :
    ∃ f' t r', f = f' + 1 ∧ R f' b (i + 1) = some t ∧ restM l R last f' t.2.2 t.2.1 = some r' ∧ r = (t.1.app r'.1, r'.2) := by
  unfold restM at h
  rw [if_neg (fun hh => by rcases hh with hh | hh; omega; rw [isM_ne hc hn] at hh; cases hh)] at h
  have hw : wantM l b i sCom = (i + 1, b) := by unfold wantM; rw [if_neg (by omega), if_pos hc]
  rw [hw] at h
  exact list_step h hb (by simp)
end Ps
end Go.Proofs.YthjflofcgdfekaaGreatDoor
namespace Go.Proofs.YthjflofcgdfekaaGreatDoor
open Go.RowKit
structure Fr (rb B : Nat) (w w' : World) : Prop where
  os : w'.os = w.os
  tape : w'.tape = w.tape
  output : w'.output = w.output
  size : w.heap.size ≤ w'.heap.size
  block : ∀ k, k < B → k ≠ rb → w'.heap[k]? = w.heap[k]?
theorem Fr.refl (rb B : Nat) (w : World) : Fr rb B w w := ⟨rfl, rfl, rfl, Nat.le_refl _, fun _ _ _ => rfl⟩
theorem Fr.trans {rb B : Nat} {a b c : World} (h : Fr rb B a b) (k : Fr rb B b c) : Fr rb B a c :=
  ⟨k.os.trans h.os, k.tape.trans h.tape, k.output.trans h.output, Nat.le_trans h.size k.size, fun i hi hr => (k.block i hi hr).trans (h.block i hi hr)⟩
theorem Fr.mono {rb B B' : Nat} {w w' : World} (h : Fr rb B w w') (hB : B' ≤ B) : Fr rb B' w w' := ⟨h.os, h.tape, h.output, h.size, fun k hk hr => h.block k (by omega) hr⟩
theorem Fr.of {rb B : Nat} {w w' : World} (h : Below B w w') : Fr rb B w w' := ⟨h.os, h.tape, h.output, h.size, fun k hk _ => h.block k hk⟩
theorem Fr.below {rb B B' : Nat} {w w' : World} (h : Fr rb B w w') (h1 : B' ≤ B) (h2 : B' ≤ rb) : Below B' w w' := ⟨h.os, h.tape, h.output, h.size, fun k hk => h.block k (by omega) (by omega)⟩
theorem Fr.alloc {rb B : Nat} {a w : World} (h : Fr rb B a w) (hB : B ≤ w.heap.size) (o : Obj) : Fr rb B a (w.alloc o) := h.trans (.of ((Below.refl _ _).alloc hB o))
theorem Fr.setCell {rb B : Nat} {a w : World} (h : Fr rb B a w) {p : Addr} (hp : B ≤ p.block) (u : Value) : Fr rb B a (w.setCell p u) := h.trans (.of ((Below.refl _ _).setCell hp u))
theorem Fr.put {rb B : Nat} {a w : World} (h : Fr rb B a w) (i : Nat) (u : Value) : Fr rb B a (w.setCell ⟨rb, i, none⟩ u) :=
  h.trans ⟨rfl, rfl, rfl, by simp [World.setCell], fun k _ hr => Below.heap_setCell _ _ _ _ hr⟩
theorem Fr.grown {rb B : Nat} {a w w' : World} {row : Option Nat} (h : Fr rb B a w) (hg : w.grownBy w' row) (hB : B ≤ w.heap.size) (hr : ∀ k, row = some k → B ≤ k) : Fr rb B a w' := h.trans (.of ((Below.refl _ _).grown hg hB hr))
theorem Fr.step {rb : Nat} {w w1 w2 : World} (h : Fr rb w.heap.size w w1) (h' : Fr rb w1.heap.size w1 w2) : Fr rb w.heap.size w w2 := h.trans (h'.mono h.size)
theorem Fr.cell {rb B : Nat} {w w' : World} (h : Fr rb B w w') {p : Addr} (hp : p.block < B) (hr : p.block ≠ rb) : w'.cell? p = w.cell? p := World.cell?_of_block (w := w) (h.block p.block hp hr)
theorem Fr.row {rb B g t : Nat} {w w' : World} {cs : Array Value} (h : Fr rb B w w') (hr : RowB w g t cs) (hg : g < B) (hn : g ≠ rb) : RowB w' g t cs := (h.block g hg hn).trans hr
theorem Fr.own {rb : Nat} {w w' : World} {base e size n : Nat} {v : Value} {xs : List Value} (hb : Fr rb w.heap.size w w') (h : w.ownsRow base e size v n xs) (hr : rb < base) : w'.ownsRow base e size v n xs := by
  have hlt := h.lt
  refine ⟨h.1, ?_⟩
  rcases h.2 with ⟨hv, hn⟩ | ⟨g, cap, cur, rfl, h1, h2, h3⟩
  · exact .inl ⟨hv, hn⟩
  · have := hlt g rfl
    exact .inr ⟨g, cap, cur, rfl, h1, (hb.block g this.2 (by omega)).trans h2, h3⟩
theorem bel1 (w : World) (o1 : Obj) : Below w.heap.size w (w.alloc o1) := (Below.refl _ _).alloc (Nat.le_refl _) _
namespace Ps
def FC (w : World) (P : Nat → Prop) : Fo → List Value → Prop
  | .nil, cs => cs = []
  | .cons h k r, cs => ∃ A cap cs', cs = [.int .i64 h.kind, .int .i64 h.fro, .int .i64 h.til, .string h.word, .int .i64 h.at_, .slice A k.len cap] ++ cs' ∧ k.len ≤ cap ∧
      (0 < k.len → ∃ (g o : Nat) (ck : List Value), A = some ⟨g, o, none⟩ ∧ P g ∧ g < w.heap.size ∧ (∀ j u, ck[j]? = some u → w.cell? ⟨g, o + j, none⟩ = some u) ∧ FC w P k ck) ∧ FC w P r cs'
def KV (w : World) (P : Nat → Prop) (k : Fo) (A : Option Addr) (cap : Nat) : Prop :=
  k.len ≤ cap ∧ (0 < k.len → ∃ (g o : Nat) (ck : List Value), A = some ⟨g, o, none⟩ ∧ P g ∧ g < w.heap.size ∧ (∀ j u, ck[j]? = some u → w.cell? ⟨g, o + j, none⟩ = some u) ∧ FC w P k ck)
theorem FC.cons {w : World} {P : Nat → Prop} {h : Hd} {k r : Fo} {A : Option Addr} {cap : Nat} {cs : List Value} (hk : KV w P k A cap) (hr : FC w P r cs) :
    FC w P (.cons h k r) ([.int .i64 h.kind, .int .i64 h.fro, .int .i64 h.til, .string h.word, .int .i64 h.at_, .slice A k.len cap] ++ cs) := by
  rw [FC]
  exact ⟨A, cap, cs, rfl, hk.1, hk.2, hr⟩
theorem FC.one {w : World} {P : Nat → Prop} {h : Hd} {k : Fo} {A : Option Addr} {cap : Nat} (hk : KV w P k A cap) :
    FC w P (.one h k) [.int .i64 h.kind, .int .i64 h.fro, .int .i64 h.til, .string h.word, .int .i64 h.at_, .slice A k.len cap] := by
  have := FC.cons (h := h) (r := .nil) (cs := []) hk (by rw [FC])
  exact this
theorem FC.keep {w w' : World} {P Q : Nat → Prop} (hs : w.heap.size ≤ w'.heap.size) (hb : ∀ g, P g → g < w.heap.size → w'.heap[g]? = w.heap[g]? ∧ Q g) : ∀ (f : Fo) (cs : List Value), FC w P f cs → FC w' Q f cs
  | .nil, cs, h => by rw [FC] at h ⊢; exact h
  | .cons hd k r, cs, h => by
    rw [FC] at h ⊢
    obtain ⟨A, cap, cs', e, hc, hk, hr⟩ := h
    refine ⟨A, cap, cs', e, hc, fun h0 => ?_, FC.keep hs hb r cs' hr⟩
    obtain ⟨g, o, ck, e1, h1, h2, h3, h4⟩ := hk h0
    obtain ⟨b1, b2⟩ := hb g h1 h2
    exact ⟨g, o, ck, e1, b2, Nat.lt_of_lt_of_le h2 hs, fun j u hu => (World.cell?_of_block (w := w) b1).trans (h3 j u hu), FC.keep hs hb k ck h4⟩
theorem KV.keep {w w' : World} {P Q : Nat → Prop} (hs : w.heap.size ≤ w'.heap.size) (hb : ∀ g, P g → g < w.heap.size → w'.heap[g]? = w.heap[g]? ∧ Q g) {k : Fo} {A : Option Addr} {cap : Nat} (h : KV w P k A cap) : KV w' Q k A cap := by
  refine ⟨h.1, fun h0 => ?_⟩
  obtain ⟨g, o, ck, e1, h1, h2, h3, h4⟩ := h.2 h0
  obtain ⟨b1, b2⟩ := hb g h1 h2
  exact ⟨g, o, ck, e1, b2, Nat.lt_of_lt_of_le h2 hs, fun j u hu => (World.cell?_of_block (w := w) b1).trans (h3 j u hu), FC.keep hs hb k ck h4⟩
theorem FC.app {w : World} {P : Nat → Prop} : ∀ (a : Fo) (ca : List Value) {b : Fo} {cb : List Value}, FC w P a ca → FC w P b cb → FC w P (a.app b) (ca ++ cb)
  | .nil, ca, b, cb, h, h' => by rw [FC] at h; subst h; exact h'
  | .cons hd k r, ca, b, cb, h, h' => by
    rw [FC] at h
    obtain ⟨A, cap, cs', e, hc, hk, hr⟩ := h
    rw [Fo.app, FC]
    exact ⟨A, cap, cs' ++ cb, by rw [e, List.append_assoc], hc, hk, FC.app r cs' hr h'⟩
theorem FC.len {w : World} {P : Nat → Prop} : ∀ (a : Fo) (ca : List Value), FC w P a ca → ca.length = a.len * 6
  | .nil, ca, h => by rw [FC] at h; subst h; rfl
  | .cons hd k r, ca, h => by
    rw [FC] at h
    obtain ⟨A, cap, cs', e, hc, hk, hr⟩ := h
    have := FC.len r cs' hr
    rw [e, Fo.len, List.length_append, this]
    simp
    omega
theorem FC.cell1 {w : World} {P : Nat → Prop} : ∀ (a : Fo) (ca : List Value), FC w P a ca → ∀ u ∈ ca, u.oneCell' = true
  | .nil, ca, h => by rw [FC] at h; subst h; simp
  | .cons hd k r, ca, h => by
    rw [FC] at h
    obtain ⟨A, cap, cs', e, hc, hk, hr⟩ := h
    have := FC.cell1 r cs' hr
    rw [e]
    intro u hu
    rcases List.mem_append.1 hu with h | h
    · simp at h
      rcases h with rfl | rfl | rfl | rfl | rfl | rfl <;> rfl
    · exact this u h
theorem KV.nil (w : World) (P : Nat → Prop) (A : Option Addr) (cap : Nat) : KV w P .nil A cap := ⟨Nat.zero_le _, fun h => by simp [Fo.len] at h⟩
theorem KV.of_own {w : World} {base n cap : Nat} {P Q : Nat → Prop} {A : Option Addr} {k : Fo} {cs : List Value} (h : w.ownsRow base 38 6 (.slice A n cap) n cs) (hn : n = k.len) (hf : FC w P k cs) (hP : ∀ g, P g → Q g) (hb : ∀ g, base ≤ g → (Value.slice A n cap).ownBlock = some g → Q g) (hc : n ≤ cap) : KV w Q k A cap := by
  subst hn
  refine ⟨hc, fun h0 => ?_⟩
  have hlt := h.lt
  rcases h.2 with ⟨hv, hx⟩ | ⟨g, cap', cur, hv, h1, h2, h3⟩
  · omega
  · injection hv with e1 _ _
    subst e1
    have := (hlt g rfl)
    refine ⟨g, 0, cs, rfl, hb g this.1 rfl, this.2, fun j u hu => ?_, FC.keep (Nat.le_refl _) (fun g hg _ => ⟨rfl, hP g hg⟩) k cs hf⟩
    have := h.cells (g := g) rfl j u hu
    simp only [Addr.add] at this
    by_cases hj : j = 0 <;> simpa [hj] using this
theorem KV.new {w : World} {g : Nat} {P : Nat → Prop} {k : Fo} {cs : Array Value} (h : RowB w g 38 cs) (hf : FC w P k cs.toList) (hb : P g) : KV w P k (some ⟨g, 0, none⟩) k.len :=
  ⟨Nat.le_refl _, fun _ => ⟨g, 0, cs.toList, rfl, hb, h.lt, fun j u hu => by rw [Nat.zero_add, h.cell j]; simpa using hu, hf⟩⟩
structure Cx where
  rb : Nat
  A : Option Addr
  l : List Tok
  c : Nat
abbrev Cx.p (X : Cx) : Value := .pointer (some ⟨X.rb, 0, none⟩)
structure Wf (l : List Tok) : Prop where
  pos : 0 < l.length
  next : ∀ i (h : i < l.length), l[i].kind ≠ 0 → i + 1 < l.length
  le : l.length ≤ 4000
structure St (X : Cx) (w : World) (b : Int) : Prop where
  row : RowB w X.rb 232 #[.slice X.A X.l.length X.c, .int .i64 b]
  toks : ∃ g, X.A = some ⟨g, 0, none⟩ ∧ g < X.rb ∧ ∀ i (h : i < X.l.length),
    w.cell? ⟨g, i * 4, none⟩ = some (.int .i64 X.l[i].kind) ∧ w.cell? ⟨g, i * 4 + 1, none⟩ = some (.int .i64 X.l[i].at_) ∧ w.cell? ⟨g, i * 4 + 2, none⟩ = some (.string X.l[i].lead) ∧ w.cell? ⟨g, i * 4 + 3, none⟩ = some (.string X.l[i].text)
  wf : Wf X.l
  cap : X.l.length ≤ X.c
  bl : b < X.l.length
theorem St.below {X : Cx} {w w' : World} {b : Int} (h : St X w b) (hb : Below w.heap.size w w') : St X w' b := by
  have hl := h.row.lt
  refine ⟨h.row.below hb hl, ?_, h.wf, h.cap, h.bl⟩
  obtain ⟨g, e, hg, hc⟩ := h.toks
  refine ⟨g, e, hg, fun i hi => ?_⟩
  obtain ⟨c0, c1, c2, c3⟩ := hc i hi
  have hg' : g < w.heap.size := by omega
  exact ⟨(hb.cell (p := ⟨g, i * 4, none⟩) hg').trans c0, (hb.cell (p := ⟨g, i * 4 + 1, none⟩) hg').trans c1, (hb.cell (p := ⟨g, i * 4 + 2, none⟩) hg').trans c2, (hb.cell (p := ⟨g, i * 4 + 3, none⟩) hg').trans c3⟩
theorem St.alloc {X : Cx} {w : World} {b : Int} (h : St X w b) (o : Obj) : St X (w.alloc o) b := h.below ((Below.refl _ _).alloc (Nat.le_refl _) o)
theorem St.far {X : Cx} {w : World} {b : Int} (h : St X w b) {p : Addr} (hp : X.rb < p.block) (u : Value) : St X (w.setCell p u) b := by
  refine ⟨h.row.far (by omega) u, ?_, h.wf, h.cap, h.bl⟩
  obtain ⟨g, e, hg, hc⟩ := h.toks
  refine ⟨g, e, hg, fun i hi => ?_⟩
  obtain ⟨c0, c1, c2, c3⟩ := hc i hi
  have hb : Below (X.rb + 1) w (w.setCell p u) := (Below.refl _ _).setCell hp u
  have hg' : g < X.rb + 1 := by omega
  exact ⟨(hb.cell (p := ⟨g, i * 4, none⟩) hg').trans c0, (hb.cell (p := ⟨g, i * 4 + 1, none⟩) hg').trans c1, (hb.cell (p := ⟨g, i * 4 + 2, none⟩) hg').trans c2, (hb.cell (p := ⟨g, i * 4 + 3, none⟩) hg').trans c3⟩
theorem St.grown {X : Cx} {w w' : World} {b : Int} {row : Option Nat} (h : St X w b) (hg : w.grownBy w' row) (hr : ∀ k, row = some k → X.rb < k) : St X w' b := by
  have hl := h.row.lt
  have hb : Below (X.rb + 1) w w' := (Below.refl _ _).grown hg (by omega) (fun k hk => hr k hk)
  refine ⟨h.row.below hb (by omega), ?_, h.wf, h.cap, h.bl⟩
  obtain ⟨g, e, hg, hc⟩ := h.toks
  refine ⟨g, e, hg, fun i hi => ?_⟩
  obtain ⟨c0, c1, c2, c3⟩ := hc i hi
  have hg' : g < X.rb + 1 := by omega
  exact ⟨(hb.cell (p := ⟨g, i * 4, none⟩) hg').trans c0, (hb.cell (p := ⟨g, i * 4 + 1, none⟩) hg').trans c1, (hb.cell (p := ⟨g, i * 4 + 2, none⟩) hg').trans c2, (hb.cell (p := ⟨g, i * 4 + 3, none⟩) hg').trans c3⟩
theorem St.stop {X : Cx} {w : World} {b : Int} (h : St X w b) (b' : Int) (hbl : b' < X.l.length) : St X (w.setCell ⟨X.rb, 1, none⟩ (.int .i64 b')) b' := by
  have hr := h.row.put 1 (.int .i64 b')
  refine ⟨hr, ?_, h.wf, h.cap, hbl⟩
  obtain ⟨g, e, hg, hc⟩ := h.toks
  refine ⟨g, e, hg, fun i hi => ?_⟩
  obtain ⟨c0, c1, c2, c3⟩ := hc i hi
  have hb : Below X.rb w (w.setCell ⟨X.rb, 1, none⟩ (.int .i64 b')) := (Below.refl _ _).setCell (p := ⟨X.rb, 1, none⟩) (Nat.le_refl _) _
  exact ⟨(hb.cell (p := ⟨g, i * 4, none⟩) hg).trans c0, (hb.cell (p := ⟨g, i * 4 + 1, none⟩) hg).trans c1, (hb.cell (p := ⟨g, i * 4 + 2, none⟩) hg).trans c2, (hb.cell (p := ⟨g, i * 4 + 3, none⟩) hg).trans c3⟩
end Ps
end Go.Proofs.YthjflofcgdfekaaGreatDoor
namespace Go.Proofs.YthjflofcgdfekaaGreatDoor
open Go.RowKit
namespace Ps
theorem isM_next {l : List Tok} (h : Wf l) {i : Nat} {x : List UInt8} (hi : isM l i x = true) : i + 1 < l.length := by
  unfold isM at hi
  by_cases hl : i < l.length
  · rw [List.getElem?_eq_getElem hl] at hi
    simp only [Bool.and_eq_true, Bool.or_eq_true, beq_iff_eq] at hi
    exact h.next i hl (by omega)
  · rw [List.getElem?_eq_none (by omega)] at hi
    cases hi
theorem kindAt_next {l : List Tok} (h : Wf l) {i : Nat} (hi : kindAt l i ≠ 0) : i + 1 < l.length := by
  unfold kindAt at hi
  by_cases hl : i < l.length
  · rw [List.getElem?_eq_getElem hl] at hi
    exact h.next i hl hi
  · rw [List.getElem?_eq_none (by omega)] at hi
    exact absurd rfl hi
theorem kindAt_get {l : List Tok} {i : Nat} (h : i < l.length) : kindAt l i = l[i].kind := by unfold kindAt; rw [List.getElem?_eq_getElem h]; rfl
theorem textAt_get {l : List Tok} {i : Nat} (h : i < l.length) : textAt l i = l[i].text := by unfold textAt; rw [List.getElem?_eq_getElem h]; rfl
end Ps
end Go.Proofs.YthjflofcgdfekaaGreatDoor
