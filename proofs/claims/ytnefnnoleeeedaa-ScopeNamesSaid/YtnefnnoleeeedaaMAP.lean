import Derived.Test.YtnefnnoleeeedaaMAO
import Derived.Test.YtnefnnoleeeedaaMAD
import Derived.Test.YtnefnnoleeeedaaMAG
import Derived.Test.YtnefnnoleeeedaaMAA
import Derived.Laws.StructEq
import Derived.Lib.QuietBelow
import Derived.BigQuiet
import Derived.Test.YtnefnnoleeeedaaMAH
namespace Go.Proofs.Ytnefnnoleeeedaa
open Go.RowKit Go.Op
namespace Sc
open Vm
section
variable (TI : Int → Bool) (nm : ByteArray) (wh : Nat)
def renHi (h : Hi) : Hi := if TI h.at_ = true then { h with word := nm } else h
def renT : Tr → Tr
  | .nil => .nil
  | .cons h k r => .cons (renHi TI nm h) (renT k) (renT r)
def renB (bs : List Bd) : List Bd := bs.mapIdx fun i b => if i = wh then { b with word := nm } else b
def sr (x : Rm × List Nm) : Rm × List Nm := (⟨renB nm wh x.1.bs, x.1.ms, x.1.bad⟩, x.2)
def Nw : Tr → Prop
  | .nil => True
  | .cons h k r => h.word ≠ nm ∧ Nw k ∧ Nw r
end
def Ex (R R' : Rm) : Prop := (∃ l, R'.bs = R.bs ++ l) ∧ (∃ l, R'.ms = R.ms ++ l) ∧ ∃ l, R'.bad = R.bad ++ l
theorem Ex.refl (R : Rm) : Ex R R := ⟨⟨[], by simp⟩, ⟨[], by simp⟩, ⟨[], by simp⟩⟩
theorem Ex.trans {a b c : Rm} (h : Ex a b) (k : Ex b c) : Ex a c := by
  obtain ⟨⟨l1, h1⟩, ⟨l2, h2⟩, ⟨l3, h3⟩⟩ := h
  obtain ⟨⟨m1, k1⟩, ⟨m2, k2⟩, ⟨m3, k3⟩⟩ := k
  exact ⟨⟨l1 ++ m1, by rw [k1, h1]; simp⟩, ⟨l2 ++ m2, by rw [k2, h2]; simp⟩, ⟨l3 ++ m3, by rw [k3, h3]; simp⟩⟩
theorem bindR_ex (a : Int) (wd : ByteArray) (kd it : Int) (x : Rm × List Nm) : Ex x.1 (bindR a wd kd it x).1 := by
  unfold bindR
  refine ⟨⟨_, rfl⟩, ⟨[], by simp⟩, ?_⟩
  dsimp only
  split
  · exact ⟨_, rfl⟩
  · exact ⟨[], by simp⟩
theorem mentionR_ex (a : Int) (wd : ByteArray) (wr : Bool) (x : Rm × List Nm) : Ex x.1 (mentionR a wd wr x) := by
  unfold mentionR
  dsimp only
  split
  · exact ⟨⟨[], by simp⟩, ⟨_, rfl⟩, ⟨_, rfl⟩⟩
  · split
    · exact ⟨⟨[], by simp⟩, ⟨_, rfl⟩, ⟨[], by simp⟩⟩
    · split
      · exact ⟨⟨[], by simp⟩, ⟨_, rfl⟩, ⟨_, rfl⟩⟩
      · exact ⟨⟨[], by simp⟩, ⟨_, rfl⟩, ⟨[], by simp⟩⟩
theorem bindsR_ex (kd it : Int) : ∀ (k : Tr) (x : Rm × List Nm), Ex x.1 (bindsR kd it k x).1
  | .nil, x => by rw [bindsR]; exact Ex.refl _
  | .cons h k r, x => by rw [bindsR]; exact (bindR_ex _ _ _ _ _).trans (bindsR_ex kd it r _)
mutual
theorem nodesR_ex (it : Int) : ∀ (k : Tr) (x : Rm × List Nm), Ex x.1 (nodesR it k x).1
  | .nil, x => by rw [nodesR]; exact Ex.refl _
  | .cons h k r, x => by
    rw [nodesR]
    have go : ∀ y : Rm × List Nm, Ex x.1 y.1 → Ex x.1 (nodesR it r y).1 := fun y hy => hy.trans (nodesR_ex it r y)
    split
    · exact go _ (mentionR_ex _ _ _ _)
    · split
      · exact go _ ((mentionR_ex h.at_ h.word true x).trans (nodesR_ex it k _))
      · split
        · exact go _ (lamR_ex it true k x)
        · split
          · exact go _ (nodesR_ex it k (x.1, ⟨0, true, false⟩ :: x.2))
          · split
            · exact go _ ((nodesR_ex it k x).trans (bindR_ex _ _ _ _ _))
            · exact go _ (nodesR_ex it k x)
theorem lamR_ex (it : Int) (lam : Bool) : ∀ (k : Tr) (x : Rm × List Nm), Ex x.1 (lamR it lam k x).1
  | .cons _ kp (.cons _ _ (.cons hb kb .nil)), x => by
    rw [lamR]
    exact (bindsR_ex 3 it kp (x.1, ⟨0, true, lam⟩ :: x.2)).trans (nodesR_ex it kb _)
  | .nil, x => by rw [lamR]; exact Ex.refl _; all_goals (intros; simp_all)
  | .cons _ _ .nil, x => by rw [lamR]; exact Ex.refl _; all_goals (intros; simp_all)
  | .cons _ _ (.cons _ _ .nil), x => by rw [lamR]; exact Ex.refl _; all_goals (intros; simp_all)
  | .cons _ _ (.cons _ _ (.cons _ _ (.cons _ _ _))), x => by rw [lamR]; exact Ex.refl _; all_goals (intros; simp_all)
end
theorem bindItemsR_ex : ∀ (k : Tr) (i : Nat) (x : Rm × List Nm), Ex x.1 (bindItemsR i k x).1
  | .nil, i, x => by rw [bindItemsR]; exact Ex.refl _
  | .cons h k r, i, x => by
    rw [bindItemsR]
    refine Ex.trans ?_ (bindItemsR_ex r (i + 1) _)
    split
    · exact bindR_ex _ _ _ _ _
    · split
      · exact bindR_ex _ _ _ _ _
      · exact Ex.refl _
theorem closeItemsR_ex : ∀ (k : Tr) (i : Nat) (x : Rm × List Nm), Ex x.1 (closeItemsR i k x).1
  | .nil, i, x => by rw [closeItemsR]; exact Ex.refl _
  | .cons h k r, i, x => by
    rw [closeItemsR]
    refine Ex.trans ?_ (closeItemsR_ex r (i + 1) _)
    split
    · exact lamR_ex _ _ _ _
    · exact Ex.refl _
section
variable {TI : Int → Bool} {nm : ByteArray} {wh : Nat}
theorem renB_len (bs : List Bd) : (renB nm wh bs).length = bs.length := by unfold renB; simp
theorem renB_get (bs : List Bd) (i : Nat) : (renB nm wh bs)[i]? = (bs[i]?).map fun b => if i = wh then { b with word := nm } else b := by unfold renB; rw [List.getElem?_mapIdx]
theorem renB_app (bs : List Bd) (b : Bd) : renB nm wh (bs ++ [b]) = renB nm wh bs ++ [if bs.length = wh then { b with word := nm } else b] := by unfold renB; rw [List.mapIdx_append]; simp
theorem renB_kind (bs : List Bd) (i : Nat) : kindOf (renB nm wh bs) i = kindOf bs i := by
  unfold kindOf
  rw [renB_get]
  cases bs[i]? with
  | none => rfl
  | some b => simp only [Option.map_some]; split <;> rfl
theorem renB_word {bs : List Bd} {i : Nat} (hi : i < bs.length) : wordOf (renB nm wh bs) i = if i = wh then nm else wordOf bs i := by
  unfold wordOf
  rw [renB_get, List.getElem?_eq_getElem hi]
  simp only [Option.map_some, Option.getD_some]
  split <;> rfl
theorem wordOf_ne {bs : List Bd} (hf : ∀ b ∈ bs, b.word ≠ nm) {i : Nat} (hi : i < bs.length) : wordOf bs i ≠ nm := by
  unfold wordOf
  rw [List.getElem?_eq_getElem hi]
  exact hf _ (List.getElem_mem hi)
theorem look_ren {wn : List Int} {bs : List Bd} (hf : ∀ b ∈ bs, b.word ≠ nm) {wd : ByteArray} (hw : wd ≠ nm) : ∀ (L : List Nm) (f : Int), Wi wn bs.length L → 0 ≤ (look bs wd L f).1 →
    look (renB nm wh bs) (if (look bs wd L f).1 = (wh : Int) then nm else wd) L f = look bs wd L f
  | [], f, _, h => by rw [look] at h; exact absurd h (by dsimp only; omega)
  | n :: r, f, ⟨h1, h2⟩, h => by
    rw [look] at h ⊢
    by_cases hb : n.begins = true
    · rw [if_pos hb] at h ⊢
      rw [look, if_pos hb]
      exact look_ren hf hw r _ h2 h
    · rw [if_neg hb] at h ⊢
      rw [look, if_neg hb]
      have htg : n.tgt < bs.length := by
        rcases h1 with h1 | h1
        · exact absurd h1 hb
        · exact h1.1
      rw [renB_word htg]
      by_cases hwd : wordOf bs n.tgt = wd
      · rw [if_pos hwd]
        dsimp only
        have heq : (if n.tgt = wh then nm else wordOf bs n.tgt) = (if (n.tgt : Int) = (wh : Int) then nm else wd) := by
          by_cases e : n.tgt = wh
          · rw [if_pos e, if_pos (show (n.tgt : Int) = (wh : Int) by rw [e])]
          · rw [if_neg e, if_neg (show ¬ (n.tgt : Int) = (wh : Int) by omega), hwd]
        rw [if_pos heq]
      · rw [if_neg hwd] at h ⊢
        have ih := look_ren hf hw r f h2 h
        have hne : ¬ (if n.tgt = wh then nm else wordOf bs n.tgt) = (if (look bs wd r f).1 = (wh : Int) then nm else wd) := by
          by_cases e : (look bs wd r f).1 = (wh : Int)
          · rw [if_pos e]
            have hword : wordOf bs wh = wd := by
              have := look_word bs wd r f h
              rw [e] at this
              simpa using this
            have en : n.tgt ≠ wh := fun e2 => hwd (e2 ▸ hword)
            rw [if_neg en]
            exact wordOf_ne hf htg
          · rw [if_neg e]
            by_cases en : n.tgt = wh
            · rw [if_pos en]; exact fun e3 => hw e3.symm
            · rw [if_neg en]; exact hwd
        rw [if_neg hne]
        exact ih
where
  look_word (bs : List Bd) (wd : ByteArray) : ∀ (L : List Nm) (f : Int), 0 ≤ (look bs wd L f).1 → wordOf bs (look bs wd L f).1.toNat = wd
    | [], f, h => by rw [look] at h; exact absurd h (by dsimp only; omega)
    | n :: r, f, h => by
      rw [look] at h ⊢
      split at h
      · rename_i c; rw [if_pos c]; exact look_word bs wd r _ h
      · rename_i c
        rw [if_neg c]
        split at h
        · rename_i c2; rw [if_pos c2]; simpa using c2
        · rename_i c2; rw [if_neg c2]; exact look_word bs wd r _ h
theorem dup_ren {wn : List Int} {bs : List Bd} (hf : ∀ b ∈ bs, b.word ≠ nm) {wd : ByteArray} (hw : wd ≠ nm) (b : Bool) (hb : b = true → wh = bs.length) : ∀ (L : List Nm), Wi wn bs.length L → dup bs wd L = false → dup (renB nm wh bs) (if b = true then nm else wd) L = false
  | [], _, _ => rfl
  | n :: r, ⟨h1, h2⟩, h => by
    rw [dup] at h ⊢
    by_cases hbg : n.begins = true
    · rw [if_pos hbg]
    · rw [if_neg hbg] at h ⊢
      have htg : n.tgt < bs.length := by
        rcases h1 with h1 | h1
        · exact absurd h1 hbg
        · exact h1.1
      by_cases hwd : wordOf bs n.tgt = wd
      · rw [if_pos hwd] at h; cases h
      · rw [if_neg hwd] at h
        rw [renB_word htg, if_neg ?_]
        · exact dup_ren hf hw b hb r h2 h
        · cases b with
          | true =>
            rw [if_pos rfl, if_neg (by have := hb rfl; omega)]
            exact wordOf_ne hf htg
          | false =>
            simp only [Bool.false_eq_true, if_false]
            by_cases e : n.tgt = wh
            · rw [if_pos e]; exact fun e => hw e.symm
            · rw [if_neg e]; exact hwd
structure End (TI : Int → Bool) (nm : ByteArray) (wh : Nat) (F : Rm) : Prop where
  tb : ∀ i b, F.bs[i]? = some b → (TI b.at_ = true ↔ i = wh)
  tm : ∀ u ∈ F.ms, (TI u.at_ = true ↔ u.to = (wh : Int))
  fr : ∀ b ∈ F.bs, b.word ≠ nm
  ok : F.bad = []
variable {F : Rm}
theorem Ex.fr {R : Rm} (h : Ex R F) (e : End TI nm wh F) : ∀ b ∈ R.bs, b.word ≠ nm := fun b hb => by
  obtain ⟨⟨l, h1⟩, _⟩ := h
  exact e.fr b (by rw [h1]; exact List.mem_append_left _ hb)
theorem Ex.nobad {R : Rm} (h : Ex R F) (e : End TI nm wh F) : R.bad = [] := by
  obtain ⟨_, _, ⟨l, h3⟩⟩ := h
  rw [e.ok] at h3
  exact (List.append_eq_nil_iff.1 h3.symm).1
theorem mention_ren (e : End TI nm wh F) {x : Rm × List Nm} (hx : WR x) {a : Int} {wd : ByteArray} {wr : Bool} (hw : wd ≠ nm) (h : Ex (mentionR a wd wr x) F) : mentionR a (if TI a = true then nm else wd) wr (sr nm wh x) = (sr nm wh (mentionR a wd wr x, x.2)).1 := by
  obtain ⟨R, L⟩ := x
  obtain ⟨wn, _, hwi⟩ := hx
  dsimp only at hwi
  have hb := h.nobad e
  have hbs : (mentionR a wd wr (R, L)).bs = R.bs := mentionR_bs _ _ _ _
  have hfr : ∀ b ∈ R.bs, b.word ≠ nm := by have := h.fr e; rw [hbs] at this; exact this
  have key : 0 ≤ (look R.bs wd L 0).1 ∧ mentionR a wd wr (R, L) = ⟨R.bs, R.ms ++ [⟨a, (look R.bs wd L 0).1, wr, if 3 ≤ kindOf R.bs (look R.bs wd L 0).1.toNat then (look R.bs wd L 0).2 else 0⟩], R.bad⟩ ∧ (3 ≤ kindOf R.bs (look R.bs wd L 0).1.toNat ∨ wr = false) := by
    unfold mentionR at hb ⊢
    dsimp only at hb ⊢
    split at hb
    · simp at hb
    · rename_i c1
      split at hb
      · rename_i c2
        rw [if_neg c1, if_pos c2, if_pos c2]
        exact ⟨by omega, rfl, .inl c2⟩
      · rename_i c2
        split at hb
        · simp at hb
        · rename_i c3
          rw [if_neg c1, if_neg c2, if_neg c3, if_neg c2]
          exact ⟨by omega, rfl, .inr (by simpa using c3)⟩
  obtain ⟨k1, k2, k3⟩ := key
  have hT : TI a = true ↔ (look R.bs wd L 0).1 = (wh : Int) := by
    obtain ⟨_, ⟨l, hm⟩, _⟩ := h
    rw [k2] at hm
    exact e.tm (⟨a, (look R.bs wd L 0).1, wr, if 3 ≤ kindOf R.bs (look R.bs wd L 0).1.toNat then (look R.bs wd L 0).2 else 0⟩ : Mn) (by rw [hm]; simp)
  have hl := look_ren (wh := wh) hfr hw L 0 hwi k1
  have hsw : (if TI a = true then nm else wd) = (if (look R.bs wd L 0).1 = (wh : Int) then nm else wd) := by
    by_cases c : TI a = true
    · rw [if_pos c, if_pos (hT.1 c)]
    · rw [if_neg c, if_neg (fun h => c (hT.2 h))]
  rw [hsw, k2]
  unfold mentionR sr
  dsimp only
  rw [hl, renB_kind, if_neg (by omega)]
  by_cases c2 : 3 ≤ kindOf R.bs (look R.bs wd L 0).1.toNat
  · rw [if_pos c2, if_pos c2]
  · rw [if_neg c2, if_neg c2]
    rcases k3 with k3 | k3
    · exact absurd k3 c2
    · rw [if_neg (by rw [k3]; simp)]
theorem bind_ren (e : End TI nm wh F) {x : Rm × List Nm} (hx : WR x) {a : Int} {wd : ByteArray} {kd it : Int} (h : Ex (bindR a wd kd it x).1 F) : bindR a (if TI a = true then nm else wd) kd it (sr nm wh x) = sr nm wh (bindR a wd kd it x) := by
  obtain ⟨R, L⟩ := x
  obtain ⟨wn, _, hwi⟩ := hx
  dsimp only at hwi
  have hb := h.nobad e
  have hfr := h.fr e
  have hw : wd ≠ nm := hfr ⟨a, kd, wd, it⟩ (by unfold bindR; simp)
  have hfr0 : ∀ b ∈ R.bs, b.word ≠ nm := fun b hb => hfr b (by unfold bindR; simp [hb])
  have hd : dup R.bs wd L = false := by
    unfold bindR at hb
    dsimp only at hb
    split at hb
    · simp at hb
    · rename_i c; simpa using c
  have hT : TI a = true ↔ R.bs.length = wh := by
    obtain ⟨⟨l, hm⟩, _⟩ := h
    refine e.tb R.bs.length ⟨a, kd, wd, it⟩ ?_
    rw [hm]
    unfold bindR
    simp
  have hdr := dup_ren (wh := wh) hfr0 hw (TI a) (fun c => (hT.1 c).symm) L hwi hd
  unfold bindR sr
  dsimp only
  rw [hdr, hd, renB_app, renB_len]
  simp only [Bool.false_eq_true, if_false]
  by_cases c : TI a = true
  · rw [if_pos c, if_pos (hT.1 c)]
  · rw [if_neg c, if_neg (fun h => c (hT.2 h))]
theorem renHi_kind (h : Hi) : (renHi TI nm h).kind = h.kind ∧ (renHi TI nm h).at_ = h.at_ ∧ (renHi TI nm h).word = if TI h.at_ = true then nm else h.word := by
  unfold renHi
  split
  · rename_i c; exact ⟨rfl, rfl, rfl⟩
  · rename_i c; exact ⟨rfl, rfl, rfl⟩
theorem binds_ren (e : End TI nm wh F) (kd it : Int) : ∀ (k : Tr) (x : Rm × List Nm), WR x → Ex (bindsR kd it k x).1 F → bindsR kd it (renT TI nm k) (sr nm wh x) = sr nm wh (bindsR kd it k x)
  | .nil, x, _, _ => by rw [renT, bindsR, bindsR]
  | .cons h k r, x, hx, hE => by
    rw [renT, bindsR, bindsR]
    rw [bindsR] at hE
    obtain ⟨_, a1, a2⟩ := renHi_kind (TI := TI) (nm := nm) h
    rw [a1, a2, bind_ren e hx ((bindsR_ex kd it r _).trans hE)]
    exact binds_ren e kd it r _ (hx.bind _ _ _ _) hE
set_option maxRecDepth 100000 in
mutual
theorem nodes_ren (e : End TI nm wh F) (it : Int) : ∀ (k : Tr) (x : Rm × List Nm), WR x → Nw nm k → Ex (nodesR it k x).1 F → nodesR it (renT TI nm k) (sr nm wh x) = sr nm wh (nodesR it k x)
  | .nil, x, _, _, _ => by rw [renT, nodesR, nodesR]
  | .cons h k r, x, hx, hn, hE => by
    rw [Nw] at hn
    obtain ⟨n1, n2, n3⟩ := hn
    obtain ⟨a0, a1, a2⟩ := renHi_kind (TI := TI) (nm := nm) h
    rw [renT, nodesR, nodesR, a0, a1, a2]
    rw [nodesR] at hE
    by_cases c23 : h.kind = 23
    · rw [if_pos c23] at hE ⊢
      rw [if_pos c23, mention_ren e hx n1 ((nodesR_ex it r _).trans hE)]
      exact nodes_ren e it r _ (hx.mention _ _ _) n3 hE
    · rw [if_neg c23] at hE ⊢
      rw [if_neg c23]
      by_cases c8 : h.kind = 8
      · rw [if_pos c8] at hE ⊢
        have hE1 := (nodesR_ex it r _).trans hE
        have i1 := nodes_ren e it k (mentionR h.at_ h.word true x, x.2) (hx.mention _ _ _) n2 hE1
        rw [if_pos c8, mention_ren e hx n1 ((nodesR_ex it k (mentionR h.at_ h.word true x, x.2)).trans hE1)]
        have i1' : nodesR it (renT TI nm k) ((sr nm wh (mentionR h.at_ h.word true x, x.2)).1, (sr nm wh x).2) = _ := i1
        rw [i1']
        exact nodes_ren e it r _ (nodesR_ok it k _ (hx.mention _ _ _)).1 n3 hE
      · rw [if_neg c8] at hE ⊢
        rw [if_neg c8]
        by_cases c28 : h.kind = 28
        · rw [if_pos c28] at hE ⊢
          rw [if_pos c28, lam_ren e it true k x hx n2 ((nodesR_ex it r _).trans hE)]
          exact nodes_ren e it r _ (lamR_ok it true k x hx).1 n3 hE
        · rw [if_neg c28] at hE ⊢
          rw [if_neg c28]
          by_cases c6 : h.kind = 6
          · rw [if_pos c6] at hE ⊢
            have i1 := nodes_ren e it k (x.1, ⟨0, true, false⟩ :: x.2) (WR.begin (R := x.1) (L := x.2) hx false) n2 ((nodesR_ex it r ((nodesR it k (x.1, ⟨0, true, false⟩ :: x.2)).1, x.2)).trans hE)
            have i1' : nodesR it (renT TI nm k) ((sr nm wh x).1, ⟨0, true, false⟩ :: (sr nm wh x).2) = _ := i1
            rw [if_pos c6, i1']
            exact nodes_ren e it r _ (hx.back (nodesR_ok it k _ (WR.begin (R := x.1) (L := x.2) hx false)).2.1) n3 hE
          · rw [if_neg c6] at hE ⊢
            rw [if_neg c6]
            by_cases c7 : h.kind = 7
            · rw [if_pos c7] at hE ⊢
              have hE1 := (nodesR_ex it r _).trans hE
              have hk := (nodesR_ok it k x hx).1
              rw [if_pos c7, nodes_ren e it k x hx n2 ((bindR_ex _ _ _ _ _).trans hE1), bind_ren e hk hE1]
              exact nodes_ren e it r _ (hk.bind _ _ _ _) n3 hE
            · rw [if_neg c7] at hE ⊢
              rw [if_neg c7, nodes_ren e it k x hx n2 ((nodesR_ex it r _).trans hE)]
              exact nodes_ren e it r _ (nodesR_ok it k x hx).1 n3 hE
theorem lam_ren (e : End TI nm wh F) (it : Int) (lam : Bool) : ∀ (k : Tr) (x : Rm × List Nm), WR x → Nw nm k → Ex (lamR it lam k x).1 F → lamR it lam (renT TI nm k) (sr nm wh x) = sr nm wh (lamR it lam k x)
  | .cons hp kp (.cons ht kt (.cons hb kb .nil)), x, hx, hn, hE => by
    rw [Nw, Nw, Nw] at hn
    obtain ⟨_, _, _, _, _, n4, _⟩ := hn
    rw [renT, renT, renT, renT, lamR, lamR]
    rw [lamR] at hE
    have hb0 := WR.begin (R := x.1) (L := x.2) hx lam
    have hE1 := (nodesR_ex it kb ((bindsR 3 it kp (x.1, ⟨0, true, lam⟩ :: x.2)).1, ⟨0, true, false⟩ :: (bindsR 3 it kp (x.1, ⟨0, true, lam⟩ :: x.2)).2)).trans hE
    have i1 : bindsR 3 it (renT TI nm kp) ((sr nm wh x).1, ⟨0, true, lam⟩ :: (sr nm wh x).2) = _ := binds_ren e 3 it kp (x.1, ⟨0, true, lam⟩ :: x.2) hb0 hE1
    have i2 := nodes_ren e it kb ((bindsR 3 it kp (x.1, ⟨0, true, lam⟩ :: x.2)).1, ⟨0, true, false⟩ :: (bindsR 3 it kp (x.1, ⟨0, true, lam⟩ :: x.2)).2) (WR.begin (R := (bindsR 3 it kp (x.1, ⟨0, true, lam⟩ :: x.2)).1) (L := (bindsR 3 it kp (x.1, ⟨0, true, lam⟩ :: x.2)).2) (bindsR_ok 3 it kp _ hb0).1 false) n4 hE
    rw [i1]
    have i2' : nodesR it (renT TI nm kb) ((sr nm wh (bindsR 3 it kp (x.1, ⟨0, true, lam⟩ :: x.2))).1, ⟨0, true, false⟩ :: (sr nm wh (bindsR 3 it kp (x.1, ⟨0, true, lam⟩ :: x.2))).2) = _ := i2
    rw [i2']
    rfl
  | .nil, x, _, _, _ => by simp only [renT, lamR]
  | .cons _ _ .nil, x, _, _, _ => by simp only [renT, lamR]
  | .cons _ _ (.cons _ _ .nil), x, _, _, _ => by simp only [renT, lamR]
  | .cons _ _ (.cons _ _ (.cons _ _ (.cons _ _ _))), x, _, _, _ => by simp only [renT, lamR]
end
theorem bindItems_ren (e : End TI nm wh F) : ∀ (k : Tr) (i : Nat) (x : Rm × List Nm), WR x → Ex (bindItemsR i k x).1 F → bindItemsR i (renT TI nm k) (sr nm wh x) = sr nm wh (bindItemsR i k x) ∧ WR (bindItemsR i k x)
  | .nil, i, x, hx, _ => by rw [renT, bindItemsR, bindItemsR]; exact ⟨rfl, hx⟩
  | .cons h k r, i, x, hx, hE => by
    obtain ⟨a0, a1, a2⟩ := renHi_kind (TI := TI) (nm := nm) h
    rw [renT, bindItemsR, bindItemsR, a0, a1, a2]
    rw [bindItemsR] at hE
    by_cases c2 : h.kind = 2
    · rw [if_pos c2] at hE ⊢
      rw [if_pos c2, bind_ren e hx ((bindItemsR_ex r (i + 1) _).trans hE)]
      exact bindItems_ren e r (i + 1) _ (hx.bind _ _ _ _) hE
    · rw [if_neg c2] at hE ⊢
      rw [if_neg c2]
      by_cases c3 : h.kind = 3
      · rw [if_pos c3] at hE ⊢
        rw [if_pos c3, bind_ren e hx ((bindItemsR_ex r (i + 1) _).trans hE)]
        exact bindItems_ren e r (i + 1) _ (hx.bind _ _ _ _) hE
      · rw [if_neg c3] at hE ⊢
        rw [if_neg c3]
        exact bindItems_ren e r (i + 1) _ hx hE
theorem closeItems_ren (e : End TI nm wh F) : ∀ (k : Tr) (i : Nat) (x : Rm × List Nm), WR x → Nw nm k → Ex (closeItemsR i k x).1 F → closeItemsR i (renT TI nm k) (sr nm wh x) = sr nm wh (closeItemsR i k x)
  | .nil, i, x, _, _, _ => by rw [renT, closeItemsR, closeItemsR]
  | .cons h k r, i, x, hx, hn, hE => by
    rw [Nw] at hn
    obtain ⟨a0, a1, a2⟩ := renHi_kind (TI := TI) (nm := nm) h
    rw [renT, closeItemsR, closeItemsR, a0]
    rw [closeItemsR] at hE
    by_cases c3 : h.kind = 3
    · rw [if_pos c3] at hE ⊢
      rw [if_pos c3, lam_ren e i false k x hx hn.2.1 ((closeItemsR_ex r (i + 1) _).trans hE)]
      exact closeItems_ren e r (i + 1) _ (lamR_ok i false k x hx).1 hn.2.2 hE
    · rw [if_neg c3] at hE ⊢
      rw [if_neg c3]
      exact closeItems_ren e r (i + 1) _ hx hn.2.2 hE
theorem file_ren {k : Tr} (e : End TI nm wh (fileR k)) (hn : Nw nm k) : fileR (renT TI nm k) = ⟨renB nm wh (fileR k).bs, (fileR k).ms, []⟩ := by
  have h0 : WR (⟨[], [], []⟩, []) := ⟨[], rfl, trivial⟩
  have hx := closeItemsR_ex k 0 (bindItemsR 0 k (⟨[], [], []⟩, []))
  obtain ⟨h1, h2⟩ := bindItems_ren e k 0 (⟨[], [], []⟩, []) h0 hx
  have h3 := closeItems_ren e k 0 _ h2 hn (Ex.refl _)
  have hs : sr nm wh ((⟨[], [], []⟩ : Rm), ([] : List Nm)) = (⟨[], [], []⟩, []) := rfl
  rw [hs] at h1
  rw [← h1] at h3
  have : fileR (renT TI nm k) = (sr nm wh (closeItemsR 0 k (bindItemsR 0 k (⟨[], [], []⟩, [])))).1 := by rw [← h3]; rfl
  rw [this]
  show (⟨renB nm wh (fileR k).bs, (fileR k).ms, (fileR k).bad⟩ : Rm) = _
  rw [e.ok]
end
end Sc
end Go.Proofs.Ytnefnnoleeeedaa
namespace Go.Proofs.Ytnefnnoleeeedaa
open Go.RowKit Go.Op
namespace Sc
open Vm
open Ps Pg Sb
def In (R : Rm) (e : Int) : Prop := (∃ b ∈ R.bs, b.at_ = e) ∨ ∃ u ∈ R.ms, u.at_ = e
def Dj (R : Rm) : Prop := (R.bs.map Bd.at_).Nodup ∧ (R.ms.map Mn.at_).Nodup ∧ ∀ b ∈ R.bs, ∀ u ∈ R.ms, b.at_ ≠ u.at_
def Seg (l : List Tok) (a t : Nat) (e : Int) : Prop := ∃ n : Nat, e = (n : Int) ∧ a ≤ n ∧ n < t ∧ kindAt l n = 1
def Out (R : Rm) (a t : Nat) : Prop := ∀ e, In R e → ¬ ((a : Int) ≤ e ∧ e < (t : Int))
theorem nodup_snoc {α : Type} {l : List α} {x : α} (h : l.Nodup) (hx : x ∉ l) : (l ++ [x]).Nodup := by
  rw [List.nodup_append]
  exact ⟨h, by simp, fun a ha b hb => by simp at hb; subst hb; exact fun e => hx (e ▸ ha)⟩
theorem bindR_dj {x : Rm × List Nm} (h : Dj x.1) {a : Int} (ha : ¬ In x.1 a) (wd : ByteArray) (kd it : Int) : Dj (bindR a wd kd it x).1 ∧ ∀ e, In (bindR a wd kd it x).1 e → In x.1 e ∨ e = a := by
  have e1 : (bindR a wd kd it x).1.bs = x.1.bs ++ [⟨a, kd, wd, it⟩] := rfl
  have e2 : (bindR a wd kd it x).1.ms = x.1.ms := rfl
  obtain ⟨h1, h2, h3⟩ := h
  refine ⟨⟨?_, by rw [e2]; exact h2, ?_⟩, fun e he => ?_⟩
  · rw [e1, List.map_append]
    exact nodup_snoc h1 fun hm => by
      obtain ⟨b, hb, e⟩ := List.mem_map.1 hm
      exact ha (.inl ⟨b, hb, e⟩)
  · rw [e1, e2]
    intro b hb u hu
    rcases List.mem_append.1 hb with hb | hb
    · exact h3 b hb u hu
    · simp at hb
      subst hb
      exact fun e => ha (.inr ⟨u, hu, e.symm⟩)
  · rcases he with ⟨b, hb, e⟩ | ⟨u, hu, e⟩
    · rw [e1] at hb
      rcases List.mem_append.1 hb with hb | hb
      · exact .inl (.inl ⟨b, hb, e⟩)
      · simp at hb
        subst hb
        exact .inr e.symm
    · exact .inl (.inr ⟨u, hu, e⟩)
theorem mentionR_ms (a : Int) (wd : ByteArray) (wr : Bool) (x : Rm × List Nm) : ∃ u : Mn, u.at_ = a ∧ (mentionR a wd wr x).ms = x.1.ms ++ [u] := by
  unfold mentionR
  dsimp only
  split
  · exact ⟨_, rfl, rfl⟩
  · split
    · exact ⟨_, rfl, rfl⟩
    · split
      · exact ⟨_, rfl, rfl⟩
      · exact ⟨_, rfl, rfl⟩
theorem mentionR_dj {x : Rm × List Nm} (h : Dj x.1) {a : Int} (ha : ¬ In x.1 a) (wd : ByteArray) (wr : Bool) : Dj (mentionR a wd wr x) ∧ ∀ e, In (mentionR a wd wr x) e → In x.1 e ∨ e = a := by
  have e1 := mentionR_bs a wd wr x
  obtain ⟨u0, ua, e2⟩ := mentionR_ms a wd wr x
  obtain ⟨h1, h2, h3⟩ := h
  refine ⟨⟨by rw [e1]; exact h1, ?_, ?_⟩, fun e he => ?_⟩
  · rw [e2, List.map_append]
    refine nodup_snoc h2 fun hm => ?_
    obtain ⟨u, hu, e⟩ := List.mem_map.1 hm
    exact ha (.inr ⟨u, hu, e.trans ua⟩)
  · rw [e1, e2]
    intro b hb u hu
    rcases List.mem_append.1 hu with hu | hu
    · exact h3 b hb u hu
    · simp at hu
      subst hu
      exact fun e => ha (.inl ⟨b, hb, e.trans ua⟩)
  · rcases he with ⟨b, hb, e⟩ | ⟨u, hu, e⟩
    · rw [e1] at hb; exact .inl (.inl ⟨b, hb, e⟩)
    · rw [e2] at hu
      rcases List.mem_append.1 hu with hu | hu
      · exact .inl (.inr ⟨u, hu, e⟩)
      · simp at hu
        subst hu
        exact .inr (e.symm.trans ua)
variable {l : List Tok}
theorem Seg.mono {a a' t t' : Nat} {e : Int} (h : Seg l a t e) (ha : a' ≤ a) (ht : t ≤ t') : Seg l a' t' e := by
  obtain ⟨n, h1, h2, h3, h4⟩ := h
  exact ⟨n, h1, by omega, by omega, h4⟩
theorem Seg.ran {a t : Nat} {e : Int} (h : Seg l a t e) : (a : Int) ≤ e ∧ e < (t : Int) := by
  obtain ⟨n, h1, h2, h3, _⟩ := h
  omega
theorem Out.mono {R : Rm} {a a' t t' : Nat} (h : Out R a t) (ha : a ≤ a') (ht : t' ≤ t) : Out R a' t' := fun e he => by have := h e he; omega
def Stp (l : List Tok) (R R' : Rm) (a t : Nat) : Prop := Dj R' ∧ ∀ e, In R' e → In R e ∨ Seg l a t e
theorem Stp.refl {R : Rm} (h : Dj R) (a t : Nat) : Stp l R R a t := ⟨h, fun _ h => .inl h⟩
theorem Stp.mono {R R' : Rm} {a a' t t' : Nat} (h : Stp l R R' a t) (ha : a' ≤ a) (ht : t ≤ t') : Stp l R R' a' t' := ⟨h.1, fun e he => (h.2 e he).imp id fun h => h.mono ha ht⟩
theorem Stp.trans {R R' R'' : Rm} {a t : Nat} (h : Stp l R R' a t) (k : Stp l R' R'' a t) : Stp l R R'' a t := ⟨k.1, fun e he => by
  rcases k.2 e he with h1 | h1
  · exact h.2 e h1
  · exact .inr h1⟩
theorem Stp.out {R R' : Rm} {a t x y : Nat} (h : Stp l R R' a t) (ho : Out R x y) (hx : t ≤ x ∨ y ≤ a) : Out R' x y := fun e he => by
  rcases h.2 e he with h1 | h1
  · exact ho e h1
  · have := h1.ran; omega
theorem stp_bind {x : Rm × List Nm} (h : Dj x.1) {n : Nat} {a t : Nat} (ho : Out x.1 a t) (h1 : a ≤ n) (h2 : n < t) (hk : kindAt l n = 1) (wd : ByteArray) (kd it : Int) : Stp l x.1 (bindR n wd kd it x).1 n (n + 1) := by
  obtain ⟨d1, d2⟩ := bindR_dj h (a := (n : Int)) (fun hi => by have := ho _ hi; omega) wd kd it
  exact ⟨d1, fun e he => (d2 e he).imp id fun h => ⟨n, h, Nat.le_refl _, Nat.lt_succ_self _, hk⟩⟩
theorem stp_mention {x : Rm × List Nm} (h : Dj x.1) {n : Nat} {a t : Nat} (ho : Out x.1 a t) (h1 : a ≤ n) (h2 : n < t) (hk : kindAt l n = 1) (wd : ByteArray) (wr : Bool) : Stp l x.1 (mentionR n wd wr x) n (n + 1) := by
  obtain ⟨d1, d2⟩ := mentionR_dj h (a := (n : Int)) (fun hi => by have := ho _ hi; omega) wd wr
  exact ⟨d1, fun e he => (d2 e he).imp id fun h => ⟨n, h, Nat.le_refl _, Nat.lt_succ_self _, hk⟩⟩
theorem ozn {h : Hd} {a t : Nat} (hz : nodeOZ l h a t) (hn : nam h.kind) : a ≤ h.fro ∧ h.til ≤ t ∧ h.fro ≤ h.at_ ∧ h.at_ < h.til ∧ kindAt l h.at_ = 1 := by
  unfold nodeOZ at hz
  have h0 : h.kind ≠ 0 := by unfold nam at hn; omega
  rw [if_neg h0] at hz
  obtain ⟨h1, h2, h3, h4⟩ := hz
  rcases h4 with ⟨_, _, h5⟩ | ⟨⟨_, h5⟩, h6, h7⟩
  · exact absurd hn h5
  · exact ⟨h1, h2, h6, h7, h5 hn⟩
theorem oza {h : Hd} {a t : Nat} (hz : nodeOZ l h a t) (h0 : h.kind ≠ 0) : a ≤ h.fro ∧ h.til ≤ t ∧ h.fro ≤ h.til := by
  unfold nodeOZ at hz
  rw [if_neg h0] at hz
  exact ⟨hz.1, hz.2.1, hz.2.2.1⟩
theorem low_fro {h : Hd} (h3 : h.kind ≠ 3) (h5 : h.kind ≠ 5) (h7 : h.kind ≠ 7) (h8 : h.kind ≠ 8) : Ps.low h = h.fro := by
  unfold Ps.low
  rw [if_neg (by omega)]
theorem binds_stp (it : Int) : ∀ (k : Fo) (a t : Nat) (x : Rm × List Nm), Azt l k a t → AllK 5 (tr k) → Dj x.1 → Out x.1 a t → Stp l x.1 (bindsR 3 it (tr k) x).1 a t
  | .nil, a, t, x, _, _, hd, _ => by rw [tr, bindsR]; exact Stp.refl hd _ _
  | .cons h k r, a, t, x, ⟨h1, _, _, _, h5⟩, ⟨k1, k2⟩, hd, ho => by
    have hk5 : h.kind = 5 := by simp only [hi_] at k1; omega
    obtain ⟨a1, a2, a3, a4, a5⟩ := ozn h1 (by unfold nam; omega)
    rw [if_neg (by omega)] at h5
    rw [tr, bindsR]
    have s1 := stp_bind (it := it) (kd := 3) (wd := h.word) hd ho (n := h.at_) (by omega) (by omega) a5
    have s2 := binds_stp it r h.til t _ h5 k2 s1.1 (s1.out (ho.mono (by omega) (Nat.le_refl _)) (.inl (by omega)))
    exact (s1.mono (by omega) (by omega)).trans (s2.mono (by omega) (Nat.le_refl _))
mutual
theorem nodes_stp (it : Int) : ∀ (k : Fo) (a t : Nat) (x : Rm × List Nm), Azt l k a t → Gd (tr k) → Dj x.1 → Out x.1 a t → Stp l x.1 (nodesR it (tr k) x).1 a t
  | .nil, a, t, x, _, _, hd, _ => by rw [tr, nodesR]; exact Stp.refl hd _ _
  | .cons h k r, a, t, x, ⟨h1, h2, h3, h4, h5⟩, hg, hd, ho => by
    rw [tr, Gd] at hg
    obtain ⟨g2, g3, g5, gk, gr⟩ := hg
    rw [tr, nodesR]
    have hk : (hi_ h).kind = (h.kind : Int) := rfl
    by_cases c0 : h.kind = 0
    · have hk0 := h2 c0
      subst hk0
      rw [if_pos c0] at h5
      rw [if_neg (show ¬ (hi_ h).kind = 23 by omega), if_neg (show ¬ (hi_ h).kind = 8 by omega), if_neg (show ¬ (hi_ h).kind = 28 by omega), if_neg (show ¬ (hi_ h).kind = 6 by omega), if_neg (show ¬ (hi_ h).kind = 7 by omega), tr, nodesR]
      exact nodes_stp it r a t x h5 gr hd ho
    · obtain ⟨b1, b2, b3⟩ := oza h1 c0
      rw [if_neg c0] at h5
      obtain ⟨b4, hkd⟩ := h4 c0 (by omega)
      have go : ∀ y : Rm × List Nm, Stp l x.1 y.1 h.fro h.til → Stp l x.1 (nodesR it (tr r) y).1 a t := fun y hy =>
        (hy.mono b1 b2).trans ((nodes_stp it r h.til t y h5 gr hy.1 (hy.out (ho.mono (by omega) (Nat.le_refl _)) (.inl (Nat.le_refl _)))).mono (by omega) (Nat.le_refl _))
      have hoi : Out x.1 h.fro h.til := ho.mono b1 b2
      by_cases c23 : (hi_ h).kind = 23
      · rw [if_pos c23]
        obtain ⟨_, _, d3, d4, d5⟩ := ozn h1 (by unfold nam; omega)
        exact go (_, x.2) ((stp_mention hd hoi d3 d4 d5 h.word false).mono d3 (by omega))
      · rw [if_neg c23]
        by_cases c8 : (hi_ h).kind = 8
        · rw [if_pos c8]
          obtain ⟨_, _, d3, d4, d5⟩ := ozn h1 (by unfold nam; omega)
          have hl : Ps.low h = h.at_ + 1 := by unfold Ps.low; rw [if_pos (by omega)]
          rw [hl] at hkd b4
          rw [if_neg (show ¬ (hi_ h).kind = 28 by omega)] at gk
          have s1 := stp_mention hd hoi d3 d4 d5 h.word true
          have s2 := nodes_stp it k (h.at_ + 1) h.til (mentionR h.at_ h.word true x, x.2) hkd gk s1.1 (s1.out (hoi.mono (by omega) (Nat.le_refl _)) (.inl (Nat.le_refl _)))
          exact go _ ((s1.mono d3 (by omega)).trans (s2.mono (by omega) (Nat.le_refl _)))
        · rw [if_neg c8]
          by_cases c28 : (hi_ h).kind = 28
          · rw [if_pos c28]
            rw [if_pos c28] at gk
            rw [low_fro (by omega) (by omega) (by omega) (by omega)] at hkd
            exact go _ (lam_stp it true k h.fro h.til x hkd gk hd hoi)
          · rw [if_neg c28]
            rw [if_neg c28] at gk
            by_cases c6 : (hi_ h).kind = 6
            · rw [if_pos c6]
              rw [low_fro (by omega) (by omega) (by omega) (by omega)] at hkd
              exact go _ (nodes_stp it k h.fro h.til (x.1, ⟨0, true, false⟩ :: x.2) hkd gk hd hoi)
            · rw [if_neg c6]
              by_cases c7 : (hi_ h).kind = 7
              · rw [if_pos c7]
                obtain ⟨_, _, d3, d4, d5⟩ := ozn h1 (by unfold nam; omega)
                have hl : Ps.low h = h.at_ + 1 := by unfold Ps.low; rw [if_pos (by omega)]
                rw [hl] at hkd b4
                have s1 := nodes_stp it k (h.at_ + 1) h.til x hkd gk hd (hoi.mono (by omega) (Nat.le_refl _))
                have s2 := stp_bind (it := it) (kd := 4) (wd := h.word) s1.1 (n := h.at_) (a := h.fro) (t := h.at_ + 1) (s1.out (hoi.mono (Nat.le_refl _) (by omega)) (.inr (Nat.le_refl _))) d3 (by omega) d5
                exact go _ ((s1.mono (by omega) (Nat.le_refl _)).trans (s2.mono d3 (by omega)))
              · rw [if_neg c7]
                rw [low_fro (by omega) (by omega) (by omega) (by omega)] at hkd
                exact go _ (nodes_stp it k h.fro h.til x hkd gk hd hoi)
theorem lam_stp (it : Int) (lam : Bool) : ∀ (k : Fo) (a t : Nat) (x : Rm × List Nm), Azt l k a t → Lm (tr k) → Dj x.1 → Out x.1 a t → Stp l x.1 (lamR it lam (tr k) x).1 a t
  | .cons hp kp (.cons ht kt (.cons hb kb .nil)), a, t, x, ⟨h1, _, _, h4, ⟨i1, _, _, _, ⟨j1, _, _, j4, _⟩⟩⟩, hl, hd, ho => by
    rw [tr, tr, tr, tr, Lm] at hl
    obtain ⟨l1, l2, _, l6, l7⟩ := hl
    simp only [hi_] at l1 l6
    rw [tr, tr, tr, tr, lamR]
    obtain ⟨b1, b2, b3⟩ := oza h1 (by omega)
    obtain ⟨b4, hkp⟩ := h4 (by omega) (by omega)
    rw [low_fro (by omega) (by omega) (by omega) (by omega)] at hkp
    have hle : hp.til ≤ (if ht.kind = 0 then (if hp.kind = 0 then a else hp.til) else ht.til) := by
      by_cases c : ht.kind = 0
      · rw [if_pos c, if_neg (by omega)]; exact Nat.le_refl _
      · rw [if_neg c]
        rw [if_neg (show ¬ hp.kind = 0 by omega)] at i1
        have := oza i1 c
        omega
    obtain ⟨c1, c2, c3⟩ := oza j1 (by omega)
    obtain ⟨c4, hkb⟩ := j4 (by omega) (by omega)
    rw [low_fro (by omega) (by omega) (by omega) (by omega)] at hkb
    have s1 := binds_stp it kp hp.fro hp.til (x.1, ⟨0, true, lam⟩ :: x.2) hkp l2 hd (ho.mono b1 b2)
    have s2 := nodes_stp it kb hb.fro hb.til ((bindsR 3 it (tr kp) (x.1, ⟨0, true, lam⟩ :: x.2)).1, ⟨0, true, false⟩ :: (bindsR 3 it (tr kp) (x.1, ⟨0, true, lam⟩ :: x.2)).2) hkb l7 s1.1 (s1.out (ho.mono (by omega) (by omega)) (.inl (by omega)))
    exact (s1.mono b1 b2).trans (s2.mono (by omega) (by omega))
  | .nil, _, _, _, _, hl, _, _ => by simp only [tr, Lm] at hl
  | .cons _ _ .nil, _, _, _, _, hl, _, _ => by simp only [tr, Lm] at hl
  | .cons _ _ (.cons _ _ .nil), _, _, _, _, hl, _, _ => by simp only [tr, Lm] at hl
  | .cons _ _ (.cons _ _ (.cons _ _ (.cons _ _ _))), _, _, _, _, hl, _, _ => by simp only [tr, Lm] at hl
end
def Lat : Fo → Int → Prop
  | .nil, _ => False
  | .cons h _ r, e => (h.at_ : Int) = e ∨ Lat r e
theorem item_nam {h : Hd} {k : Tr} {r : Tr} (g : GdI (.cons (hi_ h) k r)) : (h.kind = 2 ∨ h.kind = 3 ∧ Lm k) ∧ GdI r := by
  rw [GdI] at g
  simp only [hi_] at g
  refine ⟨?_, g.2⟩
  rcases g.1 with g | g
  · exact .inl (by omega)
  · exact .inr ⟨by omega, g.2⟩
theorem bindItems_stp : ∀ (k : Fo) (i a t : Nat) (x : Rm × List Nm), Azt l k a t → GdI (tr k) → Dj x.1 → Out x.1 a t → Stp l x.1 (bindItemsR i (tr k) x).1 a t ∧ ∀ e, In (bindItemsR i (tr k) x).1 e → In x.1 e ∨ Lat k e
  | .nil, i, a, t, x, _, _, hd, _ => by rw [tr, bindItemsR]; exact ⟨Stp.refl hd _ _, fun _ h => .inl h⟩
  | .cons h k r, i, a, t, x, ⟨h1, _, _, _, h5⟩, hg, hd, ho => by
    rw [tr] at hg
    obtain ⟨g1, g2⟩ := item_nam hg
    obtain ⟨a1, a2, a3, a4, a5⟩ := ozn h1 (by unfold nam; omega)
    rw [if_neg (by omega)] at h5
    rw [tr, bindItemsR]
    have hk : (hi_ h).kind = (h.kind : Int) := rfl
    have go : ∀ kd : Int, Stp l x.1 (bindItemsR (i + 1) (tr r) (bindR h.at_ h.word kd i x)).1 a t ∧ ∀ e, In (bindItemsR (i + 1) (tr r) (bindR h.at_ h.word kd i x)).1 e → In x.1 e ∨ Lat (.cons h k r) e := fun kd => by
      have s1 := stp_bind (it := (i : Int)) (kd := kd) (wd := h.word) hd ho (n := h.at_) (by omega) (by omega) a5
      obtain ⟨s2, s3⟩ := bindItems_stp r (i + 1) h.til t _ h5 g2 s1.1 (s1.out (ho.mono (by omega) (Nat.le_refl _)) (.inl (by omega)))
      refine ⟨(s1.mono (by omega) (by omega)).trans (s2.mono (by omega) (Nat.le_refl _)), fun e he => ?_⟩
      rcases s3 e he with q | q
      · rcases (bindR_dj hd (a := (h.at_ : Int)) (fun hi => by have := ho _ hi; omega) h.word kd i).2 e q with q | q
        · exact .inl q
        · exact .inr (.inl q.symm)
      · exact .inr (.inr q)
    by_cases c2 : (hi_ h).kind = 2
    · rw [if_pos c2]; exact go 1
    · rw [if_neg c2, if_pos (show (hi_ h).kind = 3 by omega)]; exact go 2
theorem lat_ge : ∀ (k : Fo) (a t : Nat) (e : Int), Azt l k a t → GdI (tr k) → Lat k e → (a : Int) ≤ e
  | .nil, _, _, _, _, _, h => h.elim
  | .cons h k r, a, t, e, ⟨h1, _, _, _, h5⟩, hg, hl => by
    rw [tr] at hg
    obtain ⟨g1, g2⟩ := item_nam hg
    obtain ⟨a1, a2, a3, a4, a5⟩ := ozn h1 (by unfold nam; omega)
    rw [if_neg (by omega)] at h5
    rcases hl with hl | hl
    · omega
    · have := lat_ge r h.til t e h5 g2 hl
      omega
theorem closeItems_stp : ∀ (k : Fo) (i a t : Nat) (x : Rm × List Nm), Azt l k a t → GdI (tr k) → Dj x.1 → (∀ e, In x.1 e → ¬ ((a : Int) ≤ e ∧ e < (t : Int)) ∨ Lat k e) → Stp l x.1 (closeItemsR i (tr k) x).1 a t
  | .nil, i, a, t, x, _, _, hd, _ => by rw [tr, closeItemsR]; exact Stp.refl hd _ _
  | .cons h k r, i, a, t, x, ⟨h1, _, _, h4, h5⟩, hg, hd, ho => by
    rw [tr] at hg
    obtain ⟨g1, g2⟩ := item_nam hg
    obtain ⟨a1, a2, a3, a4, a5⟩ := ozn h1 (by unfold nam; omega)
    rw [if_neg (by omega)] at h5
    rw [tr, closeItemsR]
    have hk : (hi_ h).kind = (h.kind : Int) := rfl
    by_cases c3 : (hi_ h).kind = 3
    · rw [if_pos c3]
      have hlm : Lm (tr k) := by rcases g1 with g1 | g1; omega; exact g1.2
      obtain ⟨b4, hkd⟩ := h4 (by omega) (by omega)
      have hl : Ps.low h = h.at_ + 1 := by unfold Ps.low; rw [if_pos (by omega)]
      rw [hl] at hkd b4
      have s1 := lam_stp i false k (h.at_ + 1) h.til x hkd hlm hd (fun e he => by
        rcases ho e he with q | q
        · omega
        · rcases q with q | q
          · omega
          · have := lat_ge r h.til t e h5 g2 q; omega)
      have s2 := closeItems_stp r (i + 1) h.til t _ h5 g2 s1.1 (fun e he => by
        rcases s1.2 e he with q | q
        · rcases ho e q with q | q
          · exact .inl (by omega)
          · rcases q with q | q
            · exact .inl (by omega)
            · exact .inr q
        · have := q.ran; exact .inl (by omega))
      exact (s1.mono (by omega) a2).trans (s2.mono (by omega) (Nat.le_refl _))
    · rw [if_neg c3]
      refine (closeItems_stp r (i + 1) h.til t x h5 g2 hd (fun e he => ?_)).mono (by omega) (Nat.le_refl _)
      rcases ho e he with q | q
      · exact .inl (by omega)
      · rcases q with q | q
        · exact .inl (by omega)
        · exact .inr q
theorem file_dj {K : Fo} {t : Nat} (h : Azt l K 0 t) (hg : GdI (tr K)) : Dj (fileR (tr K)) ∧ ∀ e, In (fileR (tr K)) e → Seg l 0 t e := by
  have hd0 : Dj (⟨[], [], []⟩ : Rm) := ⟨List.nodup_nil, List.nodup_nil, fun b hb => by cases hb⟩
  have hn : ∀ e, ¬ In (⟨[], [], []⟩ : Rm) e := fun e he => by
    rcases he with ⟨b, hb, _⟩ | ⟨u, hu, _⟩
    · cases hb
    · cases hu
  obtain ⟨s1, s2⟩ := bindItems_stp K 0 0 t (⟨[], [], []⟩, []) h hg hd0 (fun e he => absurd he (hn e))
  have s3 := closeItems_stp K 0 0 t (bindItemsR 0 (tr K) (⟨[], [], []⟩, [])) h hg s1.1 (fun e he => .inr (by
    rcases s2 e he with q | q
    · exact absurd q (hn e)
    · exact q))
  refine ⟨s3.1, fun e he => ?_⟩
  rcases (s1.trans s3).2 e he with q | q
  · exact absurd q (hn e)
  · exact q
end Sc
end Go.Proofs.Ytnefnnoleeeedaa
namespace Go.Proofs.Ytnefnnoleeeedaa
open Go.RowKit Go.Op
def allW (l : List UInt8) : Bool := l.all fun b => wdN b.toNat
def rnameL (l : List UInt8) : Bool := !(decide (l.length = 0) || decide (l.length > 40) || keyL l || digN (l.getD 0 0).toNat) && allW l
theorem head_of (s : ByteArray) (h0 : 0 < s.size) : (s.data.toList.getD 0 0).toNat = (s[0]'h0).toNat := (gb_of s 0 h0).symm
theorem allW_take {s : ByteArray} {k : Nat} (h : k < s.size) (ha : allW s.data.toList = true) : wdN (s[k]'h).toNat = true := by
  unfold allW at ha
  rw [List.all_eq_true] at ha
  exact ha _ (by simp [ByteArray.getElem_eq_getElem_data])
theorem allW_not {s : ByteArray} {k : Nat} (h : k < s.size) (hw : wdN (s[k]'h).toNat = false) : allW s.data.toList = false := by
  cases ha : allW s.data.toList
  · rfl
  · rw [allW_take h ha] at hw; cases hw
theorem allW_yes {s : ByteArray} (h : ∀ k (hk : k < s.size), wdN (s[k]'hk).toNat = true) : allW s.data.toList = true := by
  unfold allW
  rw [List.all_eq_true]
  intro x hx
  obtain ⟨k, hk, rfl⟩ := List.getElem_of_mem hx
  exact h k (by simpa using hk)
set_option maxHeartbeats 4000000 in
theorem rname_any (s : ByteArray) (hs : s.size ≤ 9223372036854775807) (w : World) : Calls Try.prog 13 #[.string s] w fun e w' => e = .returned (.bool (rnameL s.data.toList)) ∧ Below w.heap.size w w' := by
  obtain ⟨N, hN⟩ : ∃ N, N = rnameL s.data.toList := ⟨_, rfl⟩
  rw [← hN]
  unfold rnameL at hN
  rw [len_list] at hN
  by_cases h0 : s.size = 0
  · have q : ((s.size : Int) == 0) = true := by rw [beq_iff_eq]; omega
    rw [decide_eq_true h0] at hN
    have HN := Lib.hid hN
    clear hN h0
    go_enter Try.func13, Try.ntmps13
    go_wp2_with fail
    go_ret
    exact ⟨rb (by rw [HN.out]; simp), Below.refl _ _⟩
  have q0 : ((s.size : Int) == 0) = false := by rw [beq_eq_false_iff_ne]; omega
  rw [decide_eq_false h0, Bool.false_or] at hN
  by_cases h40 : s.size > 40
  · have q : (s.size : Int) > 40 := by omega
    rw [decide_eq_true h40] at hN
    have HN := Lib.hid hN
    clear hN h0 h40
    go_enter Try.func13, Try.ntmps13
    go_wp2_with fail
    go_ret
    exact ⟨rb (by rw [HN.out]; simp), Below.refl _ _⟩
  have q1 : ¬ (s.size : Int) > 40 := by omega
  rw [decide_eq_false h40, Bool.false_or] at hN
  have c1 := rkey_any s w
  cases hk : keyL s.data.toList
  · rw [hk] at c1 hN
    rw [Bool.false_or] at hN
    have h00 : 0 < s.size := by omega
    rw [head_of s h00] at hN
    have c2 := fun w => rdigit_any (s[0]'h00).toNat w
    cases hd : digN (s[0]'h00).toNat
    · rw [hd] at c2 hN
      rw [Bool.not_false, Bool.true_and] at hN
      have HN := Lib.hid hN
      have C1 := Lib.hid c1
      have C2 := Lib.hid c2
      clear c1 c2 hN h0 h40 hk hd
      go_enter Try.func13, Try.ntmps13
      go_wp2_with fail
      refine C1.out.mono ?_
      rintro e w1 ⟨rfl, hb⟩
      have HB := Lib.hid hb
      clear hb
      go_wp2_with fail
      refine (C2.out _).mono ?_
      rintro e w2 ⟨rfl, rfl⟩
      go_wp2_with fail
      go_loopg [3] s.size (fun kx a wr => ∃ k : Nat, a = .int .i64 k ∧ k ≤ s.size ∧ s.size - k ≤ kx ∧ Hid (∀ j (hj : j < s.size), j < k → wdN (s[j]'hj).toNat = true) ∧ Hid (w1 = wr))
      case atStart => exact ⟨0, rfl, by omega, by omega, fun j hj h => by omega, rfl⟩
      case round =>
        obtain ⟨k, rfl, hk, hkx, HA, HW⟩ := hrel
        obtain rfl := HW.out
        by_cases hlt : k < s.size
        · have hlz : (k : Int) < (s.size : Int) := by omega
          have c3 := fun w => rletter_any (s[k]'hlt).toNat w
          have c4 := fun w => rdigit_any (s[k]'hlt).toNat w
          cases hl : letN (s[k]'hlt).toNat
          · rw [hl] at c3
            cases hg : digN (s[k]'hlt).toNat
            · rw [hg] at c4
              have HF : Hid (N = false) := by
                show _ = _
                rw [HN.out]
                exact allW_not hlt (by unfold wdN; rw [hl, hg]; rfl)
              have C3 := Lib.hid c3
              have C4 := Lib.hid c4
              clear c3 c4 hl hg
              go_wp2_with fail
              refine (C3.out _).mono ?_
              rintro e w2 ⟨rfl, rfl⟩
              go_wp2_with fail
              refine (C4.out _).mono ?_
              rintro e w2 ⟨rfl, rfl⟩
              go_wp2_with fail
              go_ret
              exact ⟨rb (by rw [HF.out]), HB.out⟩
            · rw [hg] at c4
              have HA2 : Hid (∀ j (hj : j < s.size), j < k + 1 → wdN (s[j]'hj).toNat = true) := by
                intro j hj h
                by_cases e : j = k
                · subst e; unfold wdN; rw [hg]; simp
                · exact HA.out j hj (by omega)
              have C3 := Lib.hid c3
              have C4 := Lib.hid c4
              clear c3 c4 hl hg
              go_wp2_with fail
              refine (C3.out _).mono ?_
              rintro e w2 ⟨rfl, rfl⟩
              go_wp2_with fail
              refine (C4.out _).mono ?_
              rintro e w2 ⟨rfl, rfl⟩
              go_wp2_with fail
              go_roundg (s.size - (k + 1))
              case measure => omega
              case rel => exact ⟨k + 1, by go_num, by omega, by omega, HA2, rfl⟩
          · rw [hl] at c3
            have HA2 : Hid (∀ j (hj : j < s.size), j < k + 1 → wdN (s[j]'hj).toNat = true) := by
              intro j hj h
              by_cases e : j = k
              · subst e; unfold wdN; rw [hl]; rfl
              · exact HA.out j hj (by omega)
            have C3 := Lib.hid c3
            clear c3 c4 hl
            go_wp2_with fail
            refine (C3.out _).mono ?_
            rintro e w2 ⟨rfl, rfl⟩
            go_wp2_with fail
            go_roundg (s.size - (k + 1))
            case measure => omega
            case rel => exact ⟨k + 1, by go_num, by omega, by omega, HA2, rfl⟩
        · obtain rfl : k = s.size := by omega
          have HF : Hid (N = true) := by
            show _ = _
            rw [HN.out]
            exact allW_yes fun j hj => HA.out j hj hj
          have hlz : ¬ (s.size : Int) < (s.size : Int) := by omega
          clear hlt
          go_wp2_with fail
          go_ret
          exact ⟨rb (by rw [HF.out]), HB.out⟩
    · rw [hd] at c2 hN
      have HN := Lib.hid hN
      have C1 := Lib.hid c1
      have C2 := Lib.hid c2
      clear c1 c2 hN h0 h40 hk hd
      go_enter Try.func13, Try.ntmps13
      go_wp2_with fail
      refine C1.out.mono ?_
      rintro e w1 ⟨rfl, hb⟩
      have HB := Lib.hid hb
      clear hb
      go_wp2_with fail
      refine (C2.out _).mono ?_
      rintro e w2 ⟨rfl, rfl⟩
      go_wp2_with fail
      go_ret
      exact ⟨rb (by rw [HN.out]; simp), HB.out⟩
  · rw [hk] at c1 hN
    have HN := Lib.hid hN
    have C1 := Lib.hid c1
    clear c1 hN h0 h40 hk
    go_enter Try.func13, Try.ntmps13
    go_wp2_with fail
    refine C1.out.mono ?_
    rintro e w1 ⟨rfl, hb⟩
    have HB := Lib.hid hb
    clear hb
    go_wp2_with fail
    go_ret
    exact ⟨rb (by rw [HN.out]; simp), HB.out⟩
end Go.Proofs.Ytnefnnoleeeedaa
namespace Go.Proofs.Ytnefnnoleeeedaa
open Go.RowKit Go.Op
namespace Sc
open Vm
open Sb
end Sc
end Go.Proofs.Ytnefnnoleeeedaa
namespace Go.Proofs.Ytnefnnoleeeedaa
open Go.RowKit Go.Op
namespace Sc
open Vm
open Ps Pg
def NoLoc (bs : List Bd) (v : Int) : Prop := ∀ i : Nat, v = (i : Int) → ∀ b, bs[i]? = some b → ¬ 2 < b.kind
theorem NoLoc.ext {bs l : List Bd} {v : Int} (h : NoLoc bs v) (hv : v < (bs.length : Int)) : NoLoc (bs ++ l) v := fun i e b hb => by
  rw [ext_get (by omega)] at hb
  exact h i e b hb
structure Out0 (In : Int → Int → Prop) (len : Int) (s : St) : Prop where
  bd : ∀ b ∈ s.bs, Bok In len b
  mn : ∀ u ∈ s.ms, Mok In s.bs u
  me : ∀ x, s.means x < (s.bs.length : Int) ∧ NoLoc s.bs (s.means x)
  he : ∀ x v, s.here x = some v → v < (s.bs.length : Int) ∧ NoLoc s.bs v
variable {In : Int → Int → Prop} {len : Int}
theorem Out0.inv {s : St} (h : Out0 In len s) (q p : Int) : Inv In len q p { s with item := q } :=
  ⟨rfl, h.bd, h.mn, fun x => ⟨(h.me x).1, fun i e b hb hk => absurd hk ((h.me x).2 i e b hb)⟩, fun x v e => ⟨(h.he x v e).1, fun i e' b hb hk => absurd hk ((h.he x v e).2 i e' b hb)⟩⟩
theorem Out0.item {s : St} (h : Out0 In len s) (q : Int) : Out0 In len { s with item := q } := ⟨h.bd, h.mn, h.me, h.he⟩
theorem Out0.bind {s : St} (h : Out0 In len s) (a : Int) (wd : ByteArray) (kd : Int) (hq : 0 ≤ s.item ∧ s.item < len) (hk : kd = 1 ∨ kd = 2) : Out0 In len (bind a wd kd s) := by
  obtain ⟨e1, e2, e3, e4⟩ := bind0_bs a wd s
  have eb : (Sc.bind a wd kd s).bs = s.bs ++ [⟨a, kd, wd, s.item⟩] := rfl
  have hl : (Sc.bind a wd kd s).bs.length = s.bs.length + 1 := by rw [eb]; simp
  refine ⟨fun b hb => ?_, fun u hu => ?_, fun x => ?_, fun x v e => ?_⟩
  · rw [eb] at hb
    rcases List.mem_append.1 hb with hb | hb
    · exact h.bd b hb
    · rw [List.mem_singleton] at hb
      subst hb
      refine ⟨.inl (by unfold isItem; rcases hk with rfl | rfl <;> rfl), hq.1, hq.2, fun hh => ?_⟩
      have hh' : 2 < kd := hh
      omega
  · rw [eb]
    exact (h.mn u (by rw [← e2]; exact hu)).ext
  · rw [hl, eb]
    show (if x = wd then (s.bs.length : Int) else s.means x) < _ ∧ NoLoc _ (if x = wd then (s.bs.length : Int) else s.means x)
    by_cases hx : x = wd
    · rw [if_pos hx]
      refine ⟨by omega, fun i e b hb hbk => ?_⟩
      have : i = s.bs.length := by omega
      subst this
      rw [List.getElem?_append_right (Nat.le_refl _)] at hb
      simp at hb
      subst hb
      have hh' : 2 < kd := hbk
      omega
    · rw [if_neg hx]
      exact ⟨by have := (h.me x).1; omega, (h.me x).2.ext (h.me x).1⟩
  · have hv : v < (s.bs.length : Int) ∧ NoLoc s.bs v := by
      have e' : (bind0 a wd s).here x = some v := e
      unfold bind0 at e'
      split at e'
      · exact h.he x v e'
      · have e2 : (if x = wd then some (s.means wd) else s.here x) = some v := e'
        by_cases hx : x = wd
        · rw [if_pos hx] at e2
          injection e2 with e2
          rw [← e2]
          exact h.me wd
        · rw [if_neg hx] at e2
          exact h.he x v e2
    rw [hl, eb]
    exact ⟨by have := hv.1; omega, hv.2.ext hv.1⟩
end Sc
end Go.Proofs.Ytnefnnoleeeedaa
namespace Go.Proofs.Ytnefnnoleeeedaa
open Go.RowKit Go.Op
namespace Sc
open Vm
open Ps Pg Sb
theorem lexF_len (s : ByteArray) : ∀ (f k n : Nat) (l : List Tok), n ≤ 4000 → lexF s f k n = .good l → n + l.length ≤ 4000
  | 0, _, _, _, _, h => by rw [lexF] at h; cases h
  | f + 1, k, n, l, hn, h => by
    rw [lexF] at h
    split at h
    · cases h
    · split at h
      · cases h
      · split at h
        · injection h with h
          rw [← h]
          simp
          omega
        · cases e : lexF s f (endK s k) (n + 1) with
          | bad a b => rw [e] at h; cases h
          | good m =>
            rw [e] at h
            have h' : [tokK s k] ++ m = l := by injection h
            have := lexF_len s f _ _ m (by omega) e
            rw [← h']
            simp
            omega
theorem tok_size (s : ByteArray) (k : Nat) : (tokK s k).text.size ≤ s.size := by
  unfold tokK
  simp only [ByteArray.size_extract]
  omega
theorem lex_facts {s : ByteArray} {l : List Tok} (h : lexR s = .good l) : l.length ≤ 4000 ∧ ∀ j, (textAt l j).size ≤ 16384 := by
  unfold lexR at h
  split at h
  · cases h
  · rename_i hs
    split at h
    · cases h
    · refine ⟨by have := lexF_len s _ _ _ l (by omega) h; omega, fun j => ?_⟩
      unfold textAt
      cases e : l[j]? with
      | none => decide
      | some t =>
        obtain ⟨k, rfl, _⟩ := lexF_mem s _ _ _ _ h t (List.mem_of_getElem? e)
        have := tok_size s k
        show (tokK s k).text.size ≤ 16384
        omega
theorem words_apt {l : List Tok} (hw : ∀ j, (textAt l j).size ≤ 16384) : ∀ (k : Fo) (a t : Nat), Apt l k a t → wordsOk k
  | .nil, _, _, _ => trivial
  | .cons h k r, a, t, ⟨h1, h2, h3, h4, h5⟩ => by
    have e0m : e0.size ≤ maxLen := by decide
    have m16 : (16384 : Nat) ≤ maxLen := by decide
    unfold nodeOK at h1
    refine ⟨?_, ?_, words_apt hw r _ t h5⟩
    · split at h1
      · rw [h1.2.2]; exact e0m
      · rcases h1.2.2.2 with ⟨e, _⟩ | ⟨⟨j, e⟩, _⟩
        · rw [e]; exact e0m
        · rw [e]; exact Nat.le_trans (hw j) m16
    · by_cases c0 : h.kind = 0
      · rw [h2 c0]; exact trivial
      · by_cases c2 : h.kind = 2
        · have hu := h3 c2
          cases k with
          | nil => exact trivial
          | cons hk kk rk =>
            obtain ⟨u1, u2, j, u3⟩ := hu
            subst u1 u2
            exact ⟨by rw [u3]; exact Nat.le_trans (hw j) m16, trivial, trivial⟩
        · exact words_apt hw k _ _ (h4 c0 c2)
theorem fc_tr : ∀ k : Fo, (tr k).cnt = fc k
  | .nil => rfl
  | .cons h k r => by rw [tr, Tr.cnt, fc, fc_tr k, fc_tr r]
theorem of_facts {s : ByteArray} {l : List Tok} {h : Hd} {k : Fo} (hof : ofM s = .ok l h k) : h.kind = 1 ∧ (∃ t, Apt l k 0 t) ∧ Its k ∧ fc k ≤ 16000 ∧ wordsOk k := by
  unfold ofM at hof
  cases hl : lexR s with
  | bad a b => rw [hl] at hof; cases hof
  | good l' =>
    rw [hl] at hof
    dsimp only at hof
    cases hp : parseM l' with
    | bad a b => rw [hp] at hof; cases hof
    | ok h' k' =>
      rw [hp] at hof
      dsimp only at hof
      injection hof with e1 e2 e3
      subst e1 e2 e3
      obtain ⟨f1, f2⟩ := lex_facts hl
      have W := (lexR_wf hl f1).toWf
      obtain ⟨q, hq, hlt⟩ := items_some W
      unfold parseM at hp
      rw [hq] at hp
      dsimp only at hp
      unfold wholeM at hp
      split at hp
      · cases hp
      · rename_i hg
        dsimp only at hg
        split at hp
        · cases hp
        · simp only [Fo.one] at hp
          split at hp
          · cases hp
          · injection hp with h1 h2
            subst h1 h2
            have hq2 : q.2.2 < 0 := by omega
            obtain ⟨a1, a2, _⟩ := items_apt _ _ _ _ hq hq2
            have hc := items_cnt _ _ _ _ hq hq2
            have := hlt hq2
            exact ⟨rfl, ⟨_, a1⟩, items_its _ _ _ _ hq, by omega, words_apt f2 _ _ _ a1⟩
theorem uses_mem {s : St} {i : Nat} {t : Int} (h : t ∈ usesS s i) : t = ((s.bs[i]?).map Bd.at_).getD 0 ∨ ∃ u ∈ s.ms, u.to = (i : Int) ∧ t = u.at_ := by
  have h' : t ∈ usesL s i := List.mem_mergeSort.1 h
  unfold usesL at h'
  rcases List.mem_cons.1 h' with h' | h'
  · exact .inl h'
  · obtain ⟨u, hu, rfl⟩ := List.mem_map.1 h'
    obtain ⟨u1, u2⟩ := List.mem_filter.1 hu
    exact .inr ⟨u, u1, by simpa using u2, rfl⟩
end Sc
end Go.Proofs.Ytnefnnoleeeedaa
namespace Go.Proofs.Ytnefnnoleeeedaa
open Go.RowKit Go.Op
namespace Sc
open Vm
open Ps Pg Sb
theorem of_bad {s : ByteArray} {e a : Int} (h : ofM s = .bad e a) : e ≠ 0 := by
  unfold ofM at h
  cases hx : lexR s with
  | bad e' a' =>
    rw [hx] at h
    injection h with h1 h2
    rw [← h1]
    exact lexR_bad hx
  | good l =>
    rw [hx] at h
    dsimp only at h
    cases hp : parseM l with
    | ok h' k' => rw [hp] at h; cases h
    | bad e' a' =>
      rw [hp] at h
      injection h with h1 h2
      have hle : l.length ≤ 4000 := (lex_facts hx).1
      have := parse_bad (lexR_wf hx hle) hp
      omega
end Sc
end Go.Proofs.Ytnefnnoleeeedaa
namespace Go.Proofs.Ytnefnnoleeeedaa
open Go.RowKit Go.Op
namespace Sc
open Vm
open Ps Pg Sb
theorem of_gdi {s : ByteArray} {l : List Tok} {h : Hd} {k : Fo} (hof : ofM s = .ok l h k) : GdI (tr k) := by
  unfold ofM at hof
  cases hl : lexR s with
  | bad a b => rw [hl] at hof; cases hof
  | good l' =>
    rw [hl] at hof
    dsimp only at hof
    cases hp : parseM l' with
    | bad a b => rw [hp] at hof; cases hof
    | ok h' k' =>
      rw [hp] at hof
      dsimp only at hof
      injection hof with e1 e2 e3
      subst e1 e2 e3
      obtain ⟨f1, f2⟩ := lex_facts hl
      have W := (lexR_wf hl f1).toWf
      obtain ⟨q, hq, hlt⟩ := items_some W
      unfold parseM at hp
      rw [hq] at hp
      dsimp only at hp
      unfold wholeM at hp
      split at hp
      · cases hp
      · rename_i hg
        dsimp only at hg
        split at hp
        · cases hp
        · simp only [Fo.one] at hp
          split at hp
          · cases hp
          · injection hp with h1 h2
            subst h1 h2
            have hq2 : q.2.2 < 0 := by omega
            exact items_gd _ _ _ _ hq
theorem row_lt {α : Type} {w w' : World} {f : α → List Value} {sz : Nat} {A : Option Addr} {l : List α} {lo hi : Nat} (h : RowAt w lo hi f sz A l) (hh : hi ≤ w.heap.size) (hb : Below w.heap.size w w') : RowAt w' lo hi f sz A l := h.keep fun g _ k => hb.block g (by omega)
end Sc
end Go.Proofs.Ytnefnnoleeeedaa
namespace Go.Proofs.Ytnefnnoleeeedaa
open Go.RowKit Go.Op
namespace Sc
open Vm
open Ps Pg Sb
theorem name_lits {x : List UInt8} (h : rnameL x = true) : ∀ y ∈ lits, x ≠ y := fun y hy e => by
  have key : lits.all (fun y => !(rnameL y)) = true := by kernel_rfl
  have := List.all_eq_true.1 key y hy
  rw [← e, h] at this
  cases this
theorem name_e0 {x : ByteArray} (h : rnameL x.data.toList = true) : x ≠ e0 := fun e => by
  subst e
  have : rnameL e0.data.toList = false := by kernel_rfl
  rw [this] at h
  cases h
variable {l : List Tok} {T : Nat → Bool} {nm : ByteArray}
theorem tr_ren : ∀ k : Fo, tr (ren T nm k) = renT (fun a => T a.toNat) nm (tr k)
  | .nil => rfl
  | .cons h k r => by
    rw [ren, tr, tr, renT, tr_ren k, tr_ren r]
    congr 1
    have hc : (fun a : Int => T a.toNat) (hi_ h).at_ = T h.at_ := by show T ((h.at_ : Int)).toNat = _; rw [Int.toNat_natCast]
    unfold renH renHi
    by_cases c : T h.at_ = true
    · rw [if_pos c, if_pos (hc.trans c)]; rfl
    · rw [if_neg c, if_neg (fun h => c (hc.symm.trans h))]
theorem ren_deep : ∀ k : Fo, (ren T nm k).deep = k.deep
  | .nil => rfl
  | .cons h k r => by rw [ren, Fo.deep, Fo.deep, ren_deep k, ren_deep r]
theorem azt_nw (hnm : ∀ j, textAt l j ≠ nm) (h0 : nm ≠ e0) : ∀ (k : Fo) (a t : Nat), Azt l k a t → Nw nm (tr k)
  | .nil, _, _, _ => trivial
  | .cons h k r, a, t, ⟨h1, h2, h3, h4, h5⟩ => by
    rw [tr, Nw]
    refine ⟨?_, ?_, azt_nw hnm h0 r _ t h5⟩
    · unfold nodeOZ at h1
      split at h1
      · show h.word ≠ nm
        rw [h1.2.2.1]; exact fun e => h0 e.symm
      · show h.word ≠ nm
        rcases h1.2.2.2 with ⟨e, _⟩ | ⟨⟨e, _⟩, _⟩
        · rw [e]; exact fun e => h0 e.symm
        · rw [e]; exact hnm _
    · by_cases c0 : h.kind = 0
      · rw [h2 c0]; exact trivial
      · by_cases c2 : h.kind = 2
        · have hu := h3 c2
          cases k with
          | nil => exact trivial
          | cons hk kk rk =>
            obtain ⟨u1, u2, u3⟩ := hu
            subst u1 u2
            rw [tr, Nw]
            exact ⟨by show hk.word ≠ nm; rw [u3]; exact hnm _, trivial, trivial⟩
        · exact azt_nw hnm h0 k _ _ (h4 c0 c2).2
def renL (T : Nat → Bool) (nm : ByteArray) (l : List Tok) : List Tok := l.mapIdx fun i t => if T i = true then { t with text := nm } else t
theorem renL_get (i : Nat) : (renL T nm l)[i]? = (l[i]?).map fun t => if T i = true then { t with text := nm } else t := by unfold renL; rw [List.getElem?_mapIdx]
theorem renL_len : (renL T nm l).length = l.length := by unfold renL; simp
theorem renL_ok (hT : ∀ i, T i = true → kindAt l i = 1) (h0 : T 0 = false) : RenL T nm l (renL T nm l) := by
  refine ⟨?_, ?_, ?_, h0⟩
  · funext i
    unfold kindAt
    rw [renL_get]
    cases l[i]? with
    | none => rfl
    | some t => simp only [Option.map_some, Option.getD_some]; split <;> rfl
  · funext i x
    unfold isM
    rw [renL_get]
    cases e : l[i]? with
    | none => rfl
    | some t =>
      simp only [Option.map_some]
      by_cases c : T i = true
      · rw [if_pos c]
        have hk := hT i c
        unfold kindAt at hk
        rw [e] at hk
        have hk' : t.kind = 1 := hk
        simp [hk']
      · rw [if_neg c]
  · intro i
    unfold textAt
    rw [renL_get]
    cases e : l[i]? with
    | none =>
      by_cases c : T i = true
      · have hk := hT i c
        unfold kindAt at hk
        rw [e] at hk
        cases hk
      · rw [if_neg c]; rfl
    | some t =>
      simp only [Option.map_some, Option.getD_some]
      split <;> rfl
theorem renL_at {i : Nat} (h : i < (renL T nm l).length) : (renL T nm l)[i] = if T i = true then { l[i]'(by rw [renL_len] at h; exact h) with text := nm } else l[i]'(by rw [renL_len] at h; exact h) := by
  have h' : i < l.length := by rw [renL_len] at h; exact h
  have := renL_get (T := T) (nm := nm) (l := l) i
  rw [List.getElem?_eq_getElem h, List.getElem?_eq_getElem h'] at this
  simpa using this
theorem renL_wf (W : Wf2 l) (hn : ∀ y ∈ lits, nm.data.toList ≠ y) : Wf2 (renL T nm l) := by
  have hk : ∀ i (h : i < (renL T nm l).length), (renL T nm l)[i].kind = (l[i]'(by rw [renL_len] at h; exact h)).kind := fun i h => by
    rw [renL_at h]; split <;> rfl
  refine ⟨⟨by rw [renL_len]; exact W.pos, fun i h h1 => ?_, by rw [renL_len]; exact W.le⟩, fun i h h1 => ?_, fun i h h2 h5 h1 => ?_⟩
  · rw [renL_len]
    rw [hk] at h1
    exact W.next i _ h1
  · rw [renL_len] at h1
    rw [hk]
    exact W.conv i _ h1
  · rw [hk] at h2 h5
    rw [renL_len] at h1
    rw [renL_at h]
    split
    · exact hn
    · exact W.keys i _ h2 h5 h1
theorem of_read {s : ByteArray} {h : Hd} {k : Fo} (hof : ofM s = .ok l h k) : Wf2 l ∧ parseM l = .ok h k ∧ ∃ q : Fo × Nat × Int, itemsM l fuel (-1) 0 = some q ∧ q.2.2 < 0 ∧ k = q.1 ∧ h = ⟨1, 0, q.2.1, e0, 0⟩ ∧ ¬ q.2.1 + 1 < l.length ∧ ¬ 60 < 1 + k.deep := by
  unfold ofM at hof
  cases hl : lexR s with
  | bad a b => rw [hl] at hof; cases hof
  | good l' =>
    rw [hl] at hof
    dsimp only at hof
    cases hp : parseM l' with
    | bad a b => rw [hp] at hof; cases hof
    | ok h' k' =>
      rw [hp] at hof
      dsimp only at hof
      injection hof with e1 e2 e3
      subst e1 e2 e3
      obtain ⟨f1, f2⟩ := lex_facts hl
      have W2 := lexR_wf hl f1
      obtain ⟨q, hq, hlt⟩ := items_some W2.toWf
      refine ⟨W2, hp, q, hq, ?_⟩
      unfold parseM at hp
      rw [hq] at hp
      dsimp only at hp
      unfold wholeM at hp
      split at hp
      · cases hp
      · rename_i hg
        dsimp only at hg
        split at hp
        · cases hp
        · rename_i hg2
          simp only [Fo.one] at hp
          split at hp
          · cases hp
          · rename_i hg3
            injection hp with h1 h2
            subst h1 h2
            exact ⟨by omega, rfl, rfl, hg2, hg3⟩
theorem parse_ren {h : Hd} {k : Fo} (H : RenL T nm l (renL T nm l)) {q : Fo × Nat × Int} (hq : itemsM l fuel (-1) 0 = some q) (h1 : q.2.2 < 0) (hk : k = q.1) (hh : h = ⟨1, 0, q.2.1, e0, 0⟩) (h2 : ¬ q.2.1 + 1 < l.length) (h3 : ¬ 60 < 1 + k.deep) : parseM (renL T nm l) = .ok h (ren T nm k) := by
  have hr := items_rel H fuel (-1) 0
  unfold Rel at hr
  rw [hq] at hr
  unfold parseM
  rw [hr]
  show wholeM (renL T nm l) (.one ⟨1, 0, q.2.1, e0, 0⟩ (ren T nm q.1), q.2) = _
  unfold wholeM
  dsimp only
  rw [if_neg (by omega), if_neg (by rw [renL_len]; exact h2)]
  simp only [Fo.one]
  rw [ren_deep, ← hk, if_neg h3, hh]
theorem first_key {q : Fo × Nat × Int} (hq : itemsM l fuel (-1) 0 = some q) (h1 : q.2.2 < 0) (hk : q.1 ≠ .nil) : kindAt l 0 ≠ 1 := by
  obtain ⟨f, hf⟩ : ∃ f, fuel = f + 1 := ⟨99999, rfl⟩
  rw [hf, itemsM] at hq
  split at hq
  · split at hq
    · rename_i hu
      have := isM_kind hu
      omega
    · obtain ⟨t, h0, hq⟩ := Option.bind_eq_some_iff.1 hq
      obtain ⟨x, h2, hq⟩ := Option.map_eq_some_iff.1 hq
      have hx : x.2.2 < 0 := by subst hq; exact h1
      have ht : t.2.2 < 0 := by
        have := items_azt (l := l) f t.2.2 t.2.1 x h2 hx
        by_cases hb : t.2.2 < 0
        · exact hb
        · cases f with
          | zero => rw [itemsM] at h2; cases h2
          | succ f =>
            rw [itemsM, if_neg (fun c => hb c.1)] at h2
            injection h2 with h2
            subst h2
            exact absurd hx hb
      unfold defM at h0
      obtain ⟨kk, h3, h0⟩ := Option.bind_eq_some_iff.1 h0
      injection h0 with h0
      subst h0
      obtain ⟨g1, _⟩ := word_g (exM_was h3 ht)
      obtain ⟨_, g2, _⟩ := wantM_good g1
      have := isM_kind g2
      omega
  · injection hq with hq
    subst hq
    exact absurd rfl hk
theorem uses_iff {s : St} {i : Nat} {t : Int} : t ∈ usesS s i ↔ t = ((s.bs[i]?).map Bd.at_).getD 0 ∨ ∃ u ∈ s.ms, u.to = (i : Int) ∧ t = u.at_ := by
  refine ⟨uses_mem, fun h => ?_⟩
  refine List.mem_mergeSort.2 ?_
  unfold usesL
  rcases h with h | ⟨u, h1, h2, h3⟩
  · rw [h]; exact List.mem_cons_self
  · exact List.mem_cons_of_mem _ (List.mem_map.2 ⟨u, List.mem_filter.2 ⟨h1, by simpa using h2⟩, h3.symm⟩)
theorem nodup_get {α : Type} {f : α → Int} {l : List α} (h : (l.map f).Nodup) {i j : Nat} {x y : α} (hx : l[i]? = some x) (hy : l[j]? = some y) (e : f x = f y) : i = j := by
  have h1 : (l.map f)[i]? = some (f x) := by rw [List.getElem?_map, hx]; rfl
  have h2 : (l.map f)[j]? = some (f y) := by rw [List.getElem?_map, hy]; rfl
  obtain ⟨hi, e1⟩ := List.getElem?_eq_some_iff.1 h1
  obtain ⟨hj, e2⟩ := List.getElem?_eq_some_iff.1 h2
  have hp := List.pairwise_iff_getElem.1 h
  by_cases c1 : i < j
  · exact absurd (by rw [e1, e2, e]) (hp i j hi hj c1)
  · by_cases c2 : j < i
    · exact absurd (by rw [e1, e2, e]) (hp j i hj hi c2)
    · omega
theorem uses_nodup {s : St} (hd : Dj ⟨s.bs, s.ms, s.bad⟩) {i : Nat} (hi : i < s.bs.length) : (usesS s i).Nodup := by
  obtain ⟨h1, h2, h3⟩ := hd
  refine (List.mergeSort_perm (usesL s i) _).nodup_iff.2 ?_
  unfold usesL
  rw [List.getElem?_eq_getElem hi]
  refine List.nodup_cons.2 ⟨fun hm => ?_, ?_⟩
  · obtain ⟨u, hu, e⟩ := List.mem_map.1 hm
    exact h3 _ (List.getElem_mem hi) u (List.mem_filter.1 hu).1 e.symm
  · exact List.Nodup.sublist (List.Sublist.map _ List.filter_sublist) h2
theorem uses_apart {s : St} (hd : Dj ⟨s.bs, s.ms, s.bad⟩) {i j : Nat} (hi : i < s.bs.length) (hj : j < s.bs.length) {t : Int} (h1 : t ∈ usesS s i) (h2 : t ∈ usesS s j) : i = j := by
  obtain ⟨d1, d2, d3⟩ := hd
  have ei := List.getElem?_eq_getElem hi
  have ej := List.getElem?_eq_getElem hj
  rcases uses_iff.1 h1 with a | ⟨u, a1, a2, a3⟩
  · rw [ei] at a
    rcases uses_iff.1 h2 with b | ⟨v, b1, b2, b3⟩
    · rw [ej] at b
      exact nodup_get d1 ei ej (a.symm.trans b)
    · exact absurd (a.symm.trans b3) (d3 _ (List.getElem_mem hi) v b1)
  · rcases uses_iff.1 h2 with b | ⟨v, b1, b2, b3⟩
    · rw [ej] at b
      exact absurd (b.symm.trans a3) (d3 _ (List.getElem_mem hj) u a1)
    · obtain ⟨p, hp⟩ := List.mem_iff_getElem?.1 a1
      obtain ⟨r, hr⟩ := List.mem_iff_getElem?.1 b1
      have := nodup_get d2 hp hr (a3.symm.trans b3)
      subst this
      rw [hp] at hr
      injection hr with hr
      subst hr
      omega
def Wn (nm : ByteArray) (R : Rm) : Prop := ∀ b ∈ R.bs, b.word ≠ nm
theorem bind_wn {x : Rm × List Nm} (h : Wn nm x.1) {wd : ByteArray} (hw : wd ≠ nm) (a kd it : Int) : Wn nm (bindR a wd kd it x).1 := fun b hb => by
  have e1 : (bindR a wd kd it x).1.bs = x.1.bs ++ [⟨a, kd, wd, it⟩] := rfl
  rw [e1] at hb
  rcases List.mem_append.1 hb with hb | hb
  · exact h b hb
  · simp at hb
    subst hb
    exact hw
theorem mention_wn {x : Rm × List Nm} (h : Wn nm x.1) (a : Int) (wd : ByteArray) (wr : Bool) : Wn nm (mentionR a wd wr x) := fun b hb => by
  rw [mentionR_bs] at hb
  exact h b hb
theorem binds_wn (kd it : Int) : ∀ (k : Tr) (x : Rm × List Nm), Nw nm k → Wn nm x.1 → Wn nm (bindsR kd it k x).1
  | .nil, x, _, h => by rw [bindsR]; exact h
  | .cons hd k r, x, hn, h => by
    rw [Nw] at hn
    rw [bindsR]
    exact binds_wn kd it r _ hn.2.2 (bind_wn h hn.1 _ _ _)
mutual
theorem nodes_wn (it : Int) : ∀ (k : Tr) (x : Rm × List Nm), Nw nm k → Wn nm x.1 → Wn nm (nodesR it k x).1
  | .nil, x, _, h => by rw [nodesR]; exact h
  | .cons hd k r, x, hn, h => by
    rw [Nw] at hn
    rw [nodesR]
    have go : ∀ y : Rm × List Nm, Wn nm y.1 → Wn nm (nodesR it r y).1 := fun y hy => nodes_wn it r y hn.2.2 hy
    split
    · exact go _ (mention_wn h _ _ _)
    · split
      · exact go _ (nodes_wn it k (mentionR hd.at_ hd.word true x, x.2) hn.2.1 (mention_wn h _ _ _))
      · split
        · exact go _ (lam_wn it true k x hn.2.1 h)
        · split
          · exact go _ (nodes_wn it k (x.1, ⟨0, true, false⟩ :: x.2) hn.2.1 h)
          · split
            · exact go _ (bind_wn (nodes_wn it k x hn.2.1 h) hn.1 _ _ _)
            · exact go _ (nodes_wn it k x hn.2.1 h)
theorem lam_wn (it : Int) (lam : Bool) : ∀ (k : Tr) (x : Rm × List Nm), Nw nm k → Wn nm x.1 → Wn nm (lamR it lam k x).1
  | .cons hp kp (.cons ht kt (.cons hb kb .nil)), x, hn, h => by
    rw [Nw, Nw, Nw] at hn
    rw [lamR]
    exact nodes_wn it kb _ hn.2.2.2.2.2.1 (binds_wn 3 it kp (x.1, ⟨0, true, lam⟩ :: x.2) hn.2.1 h)
  | .nil, x, _, h => by simp only [lamR]; exact h
  | .cons _ _ .nil, x, _, h => by simp only [lamR]; exact h
  | .cons _ _ (.cons _ _ .nil), x, _, h => by simp only [lamR]; exact h
  | .cons _ _ (.cons _ _ (.cons _ _ (.cons _ _ _))), x, _, h => by simp only [lamR]; exact h
end
theorem bindItems_wn : ∀ (k : Tr) (i : Nat) (x : Rm × List Nm), Nw nm k → Wn nm x.1 → Wn nm (bindItemsR i k x).1
  | .nil, i, x, _, h => by rw [bindItemsR]; exact h
  | .cons hd k r, i, x, hn, h => by
    rw [Nw] at hn
    rw [bindItemsR]
    refine bindItems_wn r (i + 1) _ hn.2.2 ?_
    split
    · exact bind_wn h hn.1 _ _ _
    · split
      · exact bind_wn h hn.1 _ _ _
      · exact h
theorem closeItems_wn : ∀ (k : Tr) (i : Nat) (x : Rm × List Nm), Nw nm k → Wn nm x.1 → Wn nm (closeItemsR i k x).1
  | .nil, i, x, _, h => by rw [closeItemsR]; exact h
  | .cons hd k r, i, x, hn, h => by
    rw [Nw] at hn
    rw [closeItemsR]
    refine closeItems_wn r (i + 1) _ hn.2.2 ?_
    split
    · exact lam_wn _ _ _ _ hn.2.1 h
    · exact h
theorem out_words {k : Tr} (h : Nw nm k) : ∀ b ∈ (fileR k).bs, b.word ≠ nm :=
  closeItems_wn k 0 _ h (bindItems_wn k 0 (⟨[], [], []⟩, []) h (fun b hb => by cases hb))
structure NamesOk (l : List Tok) (h : Hd) (k : Fo) (st : St) : Prop where
  dj : Dj ⟨st.bs, st.ms, st.bad⟩
  tok : ∀ i, i < st.bs.length → ∀ t ∈ usesS st i, ∃ n : Nat, t = (n : Int) ∧ n < l.length ∧ kindAt l n = 1
  ren : ∀ (wh : Nat) (nm : ByteArray), wh < st.bs.length → st.bad = [] → (∀ j, textAt l j ≠ nm) → rnameL nm.data.toList = true →
    ∃ k' : Fo, Wf2 (renL (fun n : Nat => decide ((n : Int) ∈ usesS st wh)) nm l) ∧ parseM (renL (fun n : Nat => decide ((n : Int) ∈ usesS st wh)) nm l) = .ok h k' ∧
      (file (tr k')).bs = renB nm wh st.bs ∧ (file (tr k')).ms = st.ms ∧ (file (tr k')).bad = [] ∧ GdI (tr k') ∧ fc k' ≤ 16000 ∧ wordsOk k'
theorem ren_fc : ∀ k : Fo, fc (Ps.ren T nm k) = fc k
  | .nil => rfl
  | .cons h k r => by rw [Ps.ren, fc, fc, ren_fc k, ren_fc r]
theorem ren_words (hn : nm.size ≤ maxLen) : ∀ k : Fo, wordsOk k → wordsOk (Ps.ren T nm k)
  | .nil, _ => trivial
  | .cons h k r, ⟨h1, h2, h3⟩ => by
    refine ⟨?_, ren_words hn k h2, ren_words hn r h3⟩
    unfold renH
    split
    · exact hn
    · exact h1
theorem names_ok {s : ByteArray} {h : Hd} {k : Fo} (hof : ofM s = .ok l h k) {st : St} (hst : st = file (tr k)) : NamesOk l h k st := by
  obtain ⟨W, hp, q, hq, hb, hk, hh, g2, g3⟩ := of_read hof
  have hg := of_gdi hof
  obtain ⟨_, _, _, f4, f5⟩ := of_facts hof
  obtain ⟨a1, a2, a3⟩ := items_azt _ _ _ _ hq hb
  rw [← hk] at a1
  obtain ⟨d1, d2⟩ := file_dj a1 hg
  obtain ⟨s1, s2, s3⟩ := file_same (tr k) hg
  rw [← hst] at s1 s2 s3
  have hF : (⟨st.bs, st.ms, st.bad⟩ : Rm) = fileR (tr k) := by rw [s1, s2, s3]
  have hd : Dj ⟨st.bs, st.ms, st.bad⟩ := by rw [hF]; exact d1
  have hlen : ∀ n, kindAt l n = 1 → n < l.length := fun n hn => by
    by_cases c : n < l.length
    · exact c
    · unfold kindAt at hn
      rw [List.getElem?_eq_none (by omega)] at hn
      cases hn
  have htok : ∀ i, i < st.bs.length → ∀ t ∈ usesS st i, ∃ n : Nat, t = (n : Int) ∧ n < l.length ∧ kindAt l n = 1 := fun i hi t ht => by
    have hin : In (fileR (tr k)) t := by
      rw [← hF]
      rcases uses_iff.1 ht with e | ⟨u, e1, _, e3⟩
      · rw [List.getElem?_eq_getElem hi] at e
        exact .inl ⟨_, List.getElem_mem hi, e.symm⟩
      · exact .inr ⟨u, e1, e3.symm⟩
    obtain ⟨n, e, _, _, hn⟩ := d2 t hin
    exact ⟨n, e, hlen n hn, hn⟩
  refine ⟨hd, htok, fun wh nm hwh hbad hnm hname => ?_⟩
  obtain ⟨T, hT⟩ : ∃ T : Nat → Bool, T = fun n : Nat => decide ((n : Int) ∈ usesS st wh) := ⟨_, rfl⟩
  have hTi : ∀ n, T n = true ↔ (n : Int) ∈ usesS st wh := fun n => by rw [hT]; simp
  rw [← hT]
  have hTk : ∀ i, T i = true → kindAt l i = 1 := fun i hi => by
    obtain ⟨n, e, _, hn⟩ := htok wh hwh _ ((hTi i).1 hi)
    have : i = n := by omega
    rw [this]; exact hn
  have h0 : T 0 = false := by
    cases c : T 0 with
    | false => rfl
    | true =>
      have hk1 := hTk 0 c
      refine absurd hk1 (first_key hq hb fun e => ?_)
      rw [← hk] at e
      have : st.bs = [] := by rw [hst, e]; rfl
      rw [this] at hwh
      simp at hwh
  have H := renL_ok (nm := nm) hTk h0
  have hpr := parse_ren H hq hb hk hh g2 g3
  have hitr := items_rel H fuel (-1) 0
  unfold Rel at hitr
  rw [hq] at hitr
  have hitr' : itemsM (renL T nm l) fuel (-1) 0 = some (Ps.ren T nm q.1, q.2) := hitr
  have hgk : GdI (tr (Ps.ren T nm k)) := by
    have := items_gd _ _ _ _ hitr'
    rw [← hk] at this
    exact this
  obtain ⟨r1, r2, r3⟩ := file_same (tr (Ps.ren T nm k)) hgk
  have hname0 := name_e0 hname
  have hEnd : End (fun a => T a.toNat) nm wh (fileR (tr k)) := by
    rw [← hF]
    have hget : ∀ (b : Bd), b ∈ st.bs → ∃ n : Nat, b.at_ = (n : Int) := fun b hb => by
      obtain ⟨n, e, _⟩ := d2 b.at_ (by rw [← hF]; exact .inl ⟨b, hb, rfl⟩)
      exact ⟨n, e⟩
    have hgetm : ∀ (u : Mn), u ∈ st.ms → ∃ n : Nat, u.at_ = (n : Int) := fun u hu => by
      obtain ⟨n, e, _⟩ := d2 u.at_ (by rw [← hF]; exact .inr ⟨u, hu, rfl⟩)
      exact ⟨n, e⟩
    refine ⟨fun i b hb' => ?_, fun u hu => ?_, fun b hb' => ?_, hbad⟩
    · have hb' : st.bs[i]? = some b := hb'
      obtain ⟨n, e⟩ := hget b (List.mem_of_getElem? hb')
      have hi : i < st.bs.length := (List.getElem?_eq_some_iff.1 hb').1
      try dsimp only
      rw [e, Int.toNat_natCast, hTi, ← e]
      constructor
      · intro hm
        exact uses_apart hd hi hwh (uses_iff.2 (.inl (by rw [hb']; rfl))) hm
      · rintro rfl
        exact uses_iff.2 (.inl (by rw [hb']; rfl))
    · have hu : u ∈ st.ms := hu
      obtain ⟨n, e⟩ := hgetm u hu
      try dsimp only
      rw [e, Int.toNat_natCast, hTi, ← e]
      constructor
      · intro hm
        rcases uses_iff.1 hm with a | ⟨v, b1, b2, b3⟩
        · rw [List.getElem?_eq_getElem hwh] at a
          exact absurd a.symm (hd.2.2 _ (List.getElem_mem hwh) u hu)
        · obtain ⟨p, hp'⟩ := List.mem_iff_getElem?.1 hu
          obtain ⟨r, hr⟩ := List.mem_iff_getElem?.1 b1
          have := nodup_get hd.2.1 hp' hr b3
          subst this
          rw [hp'] at hr
          injection hr with hr
          subst hr
          exact b2
      · intro hto
        exact uses_iff.2 (.inr ⟨u, hu, hto, rfl⟩)
    · have hb' : b ∈ st.bs := hb'
      have hw := out_words (azt_nw hnm hname0 k _ _ a1)
      exact hw b (by rw [← s1]; exact hb')
  have hren := file_ren hEnd (azt_nw hnm hname0 k _ _ a1)
  rw [← tr_ren] at hren
  refine ⟨Ps.ren T nm k, renL_wf W (name_lits hname), hpr, ?_, ?_, ?_, hgk, by rw [ren_fc]; exact f4, ren_words ?_ k f5⟩
  · rw [r1, hren, s1]
  · rw [r2, hren, s2]
  · rw [r3, hren]
  · unfold rnameL at hname
    simp only [Bool.and_eq_true, Bool.not_eq_true', Bool.or_eq_false_iff, decide_eq_false_iff_not] at hname
    have h40 := hname.1.1.1.2
    have : nm.data.toList.length = nm.size := by simp
    unfold maxLen
    omega
end Sc
end Go.Proofs.Ytnefnnoleeeedaa
namespace Go.Proofs.Ytnefnnoleeeedaa
open Go.RowKit Go.Op
namespace Sc
open Vm
open Go.Maps
theorem lawI : Keyed Try.prog 3 := int_keyed Try.underlying3
theorem zeroB (w : World) : (zeroValue 4).run Try.prog w = .ok (.bool false) w := by kernel_rfl
set_option maxRecDepth 100000 in
theorem bool_inv {v : Value} {z : DataW Unit × List MemPlace} (h : plainElem Try.prog 4 v = some z) : ∃ c, v = .bool c ∧ z = (.lit (.bool c), []) := by
  unfold plainElem at h
  rw [Try.underlying4] at h
  cases v <;> simp at h
  exact ⟨_, rfl, h.symm⟩
def SF (w : World) (b n : Nat) (f : Int → Bool) : Prop := ∃ D : DataW Unit, w.ownsMap Try.prog 3 (plainElem Try.prog 4) b n D ∧ IsMap D ∧ ∀ x : Int, D.atKey (.int .i64 x) (.lit (.bool false)) = .lit (.bool (f x))
theorem SF.new (w : World) : SF (w.alloc (.map #[] 0)) w.heap.size 0 fun _ => false := ⟨.map [], World.ownsMap_made w _ _ _, isMap_empty, fun _ => rfl⟩
theorem SF.lt {w : World} {b n : Nat} {f : Int → Bool} (h : SF w b n f) : b < w.heap.size := by obtain ⟨D, h, _⟩ := h; exact h.lt
theorem SF.mono {w : World} {b n m : Nat} {f : Int → Bool} (h : SF w b n f) (hn : n ≤ m) : SF w b m f := by obtain ⟨D, h, k⟩ := h; exact ⟨D, h.mono hn, k⟩
theorem SF.of_block {w w' : World} {b n : Nat} {f : Int → Bool} (h : SF w b n f) (hb : w'.heap[b]? = w.heap[b]?) : SF w' b n f := by
  obtain ⟨D, ⟨es, clock, h1, h2⟩, k⟩ := h
  exact ⟨D, ⟨es, clock, hb.trans h1, h2⟩, k⟩
theorem SF.look {w : World} {b n : Nat} {f : Int → Bool} (h : SF w b n f) {x : Int} (hx : (Lit.int .i64 x).wf = true) : (Instr.lookup 54 (.map (some b)) (.int .i64 x) false).run Try.prog w = .ok (.bool (f x)) w := by
  obtain ⟨D, h, k1, k2⟩ := h
  obtain ⟨v, ps, hr, hv⟩ := h.lookup lawI (show Try.prog.underlying 54 = some (.map 3 4) by kernel_rfl) (zeroB w) (plainElem_bool Try.underlying4 false) (keyOf_int_mk Try.underlying3 hx)
  obtain ⟨c, rfl, hc⟩ := bool_inv hv
  rw [k2] at hc
  simp only [Prod.mk.injEq, DataW.lit.injEq, Lit.bool.injEq] at hc
  rw [hr, hc.1]
theorem SF.put {w : World} {b n : Nat} {f : Int → Bool} (h : SF w b n f) (hn : n < maxLen) {x : Int} (hx : (Lit.int .i64 x).wf = true) :
    ∃ w', (Instr.mapUpdate 54 (.map (some b)) (.int .i64 x) (.bool true)).run Try.prog w = .ok () w' ∧ SF w' b (n + 1) (fun y => if y = x then true else f y) ∧ w.grownBy w' (some b) := by
  obtain ⟨D, h, k1, k2⟩ := h
  have hkey : keyOf Try.prog 3 (.int .i64 x) = some (.int .i64 x) := keyOf_int_mk Try.underlying3 hx
  obtain ⟨w', h1, h2, h3⟩ := h.update lawI (show Try.prog.underlying 54 = some (.map 3 4) by kernel_rfl) hn hkey (plainElem_bool Try.underlying4 true)
  refine ⟨w', h1, ⟨_, h2, k1.put _ _, fun y => ?_⟩, h3⟩
  dsimp only
  by_cases e : y = x
  · subst e
    rw [if_pos rfl]
    exact atKey_put_same k1 (lawI.key hkey) _ _
  · rw [if_neg e, atKey_put_other (fun e' => e (by injection e'))]
    exact k2 y
end Sc
open Go.RowKit
namespace Pg
open Ps
def ThawT (B : Nat) (w : World) (A : Option Addr) : Prop := ∀ g, A = some ⟨g, 0, none⟩ → B ≤ g ∧ ∀ j, w.frozen? ⟨g, j, none⟩ = false
theorem ThawT.keep {B : Nat} {w w' : World} {A : Option Addr} (h : ThawT B w A) (hb : ∀ g, A = some ⟨g, 0, none⟩ → w'.heap[g]? = w.heap[g]?) : ThawT B w' A := fun g e => by
  obtain ⟨h1, h2⟩ := h g e
  refine ⟨h1, fun j => ?_⟩
  have := h2 j
  unfold World.frozen? at this ⊢
  rw [hb g e]
  exact this
theorem ThawT.frame {B B' : Nat} {w w' : World} {A : Option Addr} {l : List Tok} {rb : Nat} (h : ThawT B w A) (hT : TokAt w A l) (hp : 0 < l.length) (hF : Fr rb w.heap.size w w') (hne : ∀ g, A = some ⟨g, 0, none⟩ → g ≠ rb) (hB : B' ≤ B) : ThawT B' w' A := by
  have := h.keep (w' := w') (fun g e => by
    obtain ⟨g', e', hl, _⟩ := hT hp
    rw [e] at e'
    injection e' with e'
    injection e' with e'
    subst e'
    exact hF.block g hl (hne g e))
  exact fun g e => ⟨Nat.le_trans hB (this g e).1, (this g e).2⟩
def LextW (s : ByteArray) (w : World) (e : Ending) (w' : World) : Prop :=
  Below w.heap.size w w' ∧ match lexR s with
    | .good l => ∃ A cap, e = .returned (.tuple #[.slice A l.length cap, .int .i64 0, .int .i64 0]) ∧ TokAt w' A l ∧ l.length ≤ 4000 ∧ (0 < l.length → l.length ≤ cap) ∧ ThawT w.heap.size w' A
    | .bad er a => e = .returned (.tuple #[.slice none 0 0, .int .i64 er, .int .i64 a])
theorem rlextw_any (s : ByteArray) (hs : (s.size : Int) ≤ 9223372036854775807) (w : World) : Calls Try.prog 17 #[.string s] w (LextW s w) := by
  cases hx : lexR s with
  | bad er a =>
    refine (rlext_any s hs w).mono fun e w' h => ?_
    obtain ⟨h1, h2⟩ := h
    unfold LextW
    rw [hx] at h2 ⊢
    exact ⟨h1, h2⟩
  | good l =>
    have hb : ¬ s.size > 16384 := fun hb => by
      unfold lexR at hx
      rw [if_pos hb] at hx
      cases hx
    have hg : badAt s.data.toList = none := by
      by_cases c : badAt s.data.toList = none
      · exact c
      · unfold lexR at hx
        rw [if_neg hb, if_pos (by simpa using c)] at hx
        cases hx
    have hx2 : lexR s = lexF s (s.size + 1) 0 0 := by unfold lexR; rw [if_neg hb, if_neg (by simp [hg])]
    refine (rlex_any s (by omega) (by simpa using hg) w).mono fun e w' h => ?_
    have hL : Lext s w e w' := lext_of (by
      unfold Lexed
      rw [hx2]
      exact h)
    have h' : Lexed s w e w' := by unfold Lexed; rw [hx2]; exact h
    obtain ⟨b1, h2⟩ := hL
    obtain ⟨_, h3⟩ := h'
    unfold LextW
    rw [hx] at h2 h3 ⊢
    obtain ⟨A, cap, e1, t1, t2, t3⟩ := h2
    obtain ⟨v, e2, hown, _⟩ := h3
    refine ⟨b1, A, cap, e1, t1, t2, t3, fun g eg => ?_⟩
    rw [e1] at e2
    have ev : v = .slice A l.length cap := by simpa using e2.symm
    subst ev
    have hob : (Value.slice A l.length cap).ownBlock = some g := by rw [eg]; rfl
    refine ⟨(hown.lt g hob).1, fun j => ?_⟩
    obtain ⟨cs, hc⟩ := Sc.own_cells hown hob
    simp [World.frozen?, hc]
def OfW (w : World) (o : OfR) (e : Ending) (w' : World) : Prop :=
  Below w.heap.size w w' ∧ match o with
    | .ok l h k => ∃ A c A' c', e = .returned (.tuple #[.slice A l.length c, nvv h A' k.len c', .int .i64 0, .int .i64 0]) ∧ TokAt w' A l ∧ ThawT w.heap.size w' A ∧ l.length ≤ c ∧ KV w' (fun g => w.heap.size ≤ g) k A' c'
    | .bad er a => e = .returned (.tuple #[.slice none 0 0, nv0, .int .i64 er, .int .i64 a])
set_option maxHeartbeats 4000000 in
set_option maxRecDepth 100000 in
theorem rofw_any (s : ByteArray) (hs : (s.size : Int) ≤ 9223372036854775807) (w : World) : Calls Try.prog 7 #[.string s] w (OfW w (ofM s)) := by
  have R0 := Lib.hid (RowB.new w 25 zcc)
  have B0 := Lib.hid (bel1 w (.cells zcc 25))
  have CL := rlextw_any s hs (w.alloc (.cells zcc 25))
  obtain ⟨o, hof⟩ : ∃ o, o = ofM s := ⟨_, rfl⟩
  rw [← hof]
  unfold ofM at hof
  unfold LextW at CL
  cases hx : lexR s with
  | bad er a =>
    rw [hx] at CL hof
    dsimp only at hof
    subst hof
    have CL := Lib.hid CL
    have hne := lexR_bad hx
    have h1 : (er == 0) = false := by rw [beq_eq_false_iff_ne]; exact hne
    have h2 : (er != 0) = true := by rw [bne_iff_ne]; exact hne
    clear hx
    go_enter Try.func7, Try.ntmps7
    go_wp2_with fail
    refine CL.out.mono ?_
    rintro e w1 ⟨hb, rfl⟩
    have B1 := Lib.hid (B0.out.trans (hb.mono (by simp)))
    have R1 := R0.out.below hb (by simp)
    have r1 := R1.cell
    have r2 := R1.thaw
    clear hb CL R1 R0 B0
    go_wp2
    refine bodyPost_ret (v := .tuple #[.slice none 0 0, nv0, .int .i64 er, .int .i64 a]) ?_ rfl ⟨below_put6 B1.out (Nat.le_refl _) _ _ _ _ _ _, rfl⟩
    simp [results, Try.results7, go_sem, r1]
    try first | rfl | exact ⟨rfl, rfl⟩
  | good l =>
    rw [hx] at CL hof
    have CL := Lib.hid CL
    have HOF := Lib.hid hof
    have HX := Lib.hid hx
    clear hx hof
    go_enter Try.func7, Try.ntmps7
    go_wp2_with fail
    refine CL.out.mono ?_
    rintro e w1 ⟨hb, A, c, rfl, hTA, hle, hc, hth⟩
    have HTH := Lib.hid hth
    have W := lexR_wf HX.out hle
    have HW := Lib.hid W
    have hpos := W.pos
    have hcc := hc hpos
    have B1 := Lib.hid (B0.out.trans (hb.mono (by simp)))
    have R1 := Lib.hid (R0.out.below hb (by simp))
    have HTA := Lib.hid hTA
    have CP := Lib.hid (rparse_any l A c w1 hTA W hcc)
    have hsz : w.heap.size < w1.heap.size := by have := hb.size; simp at this; omega
    have HNE : Hid (∀ g, A = some ⟨g, 0, none⟩ → g ≠ w.heap.size) := fun g eg e => by
      obtain ⟨g', eg', _, ht⟩ := hTA hpos
      rw [eg] at eg'
      injection eg' with eg'
      injection eg' with eg'
      have h1 := (ht 0 hpos).2.2.1
      rw [← eg', e] at h1
      have h2 := R1.out.cell 2
      rw [show 0 * 4 + 2 = 2 from rfl, h2] at h1
      simp at h1
    clear hb CL R0 B0 hTA hc W HX hth
    go_wp2_with fail
    refine CP.out.mono ?_
    rintro e w2 ⟨hb, ho⟩
    have B2 := Lib.hid (B1.out.trans (hb.mono (by omega)))
    have R2 := Lib.hid (R1.out.below hb (by omega))
    have HTB := Lib.hid (HTA.out.below hb)
    have HTI := Lib.hid (HTH.out.keep (w' := w2) (fun g e => by obtain ⟨g', e', hl, _⟩ := HTA.out hpos; rw [e] at e'; injection e' with e'; injection e' with e'; subst e'; exact hb.block g hl))
    have hsz2 : w.heap.size < w2.heap.size := by have := hb.size; omega
    clear hb CP R1 B1
    cases hp : parseM l with
    | bad er a =>
      rw [hp] at ho
      obtain ⟨rfl, hal⟩ := ho
      have her := parse_bad HW.out hp
      have HO : Hid (o = .bad er (atOf l a : Int)) := by
        unfold Hid
        rw [HOF.out, hp]
      have h1 : ((er : Int) == 0) = false := by rw [beq_eq_false_iff_ne]; omega
      have h2 : ((er : Int) != 0) = true := by rw [bne_iff_ne]; omega
      obtain ⟨g, eg, hg, ht⟩ := HTB.out hpos
      obtain ⟨_, c1, _, _⟩ := ht a hal
      have hat : atOf l a = l[a].at_ := by unfold atOf; rw [List.getElem?_eq_getElem hal]; rfl
      rw [← hat] at c1
      have hali : (a : Int) < (l.length : Int) := by omega
      have r1 := R2.out.cell
      have r2 := R2.out.thaw
      generalize atOf l a = at1 at *
      have hne := HNE.out g eg
      have hne2 : w.heap.size ≠ g := fun e => hne e.symm
      subst eg
      clear hp her ht hat HTA HTB
      go_wp2_with fail
      go_region
      all_goals
        go_wp2
        refine bodyPost_ret (v := .tuple #[.slice none 0 0, nv0, .int .i64 er, .int .i64 at1]) ?_ rfl ⟨((below_put6 B2.out (Nat.le_refl _) _ _ _ _ _ _).alloc (by simp [World.setCell]; omega) _).drew, by rw [HO.out]⟩
        have r7 := row6 R2.out rfl (.int .i64 0) (.int .i64 0) (.int .i64 0) (.string ⟨#[]⟩) (.int .i64 0) (.slice none 0 0) (.cells #[.int .i64 0, .int .i64 0, .int .i64 0, .string ⟨#[]⟩, .int .i64 0, .slice none 0 0] 25)
        simp [results, Try.results7, go_sem, r7]
    | ok h k =>
      rw [hp] at ho
      obtain ⟨A1, c1, rfl, hk⟩ := ho
      obtain ⟨x1, x2, x3, x4, x5⟩ := h
      have HK := Lib.hid hk
      have HO : Hid (o = .ok l ⟨x1, x2, x3, x4, x5⟩ k) := by
        unfold Hid
        rw [HOF.out, hp]
      have r1 := R2.out.cell
      have r2 := R2.out.thaw
      clear hk hp
      go_wp2_with fail
      go_region
      all_goals
        go_wp2
        refine bodyPost_ret (v := .tuple #[.slice A l.length c, nvv ⟨x1, x2, x3, x4, x5⟩ A1 k.len c1, .int .i64 0, .int .i64 0]) ?_ rfl ⟨((below_put6 B2.out (Nat.le_refl _) _ _ _ _ _ _).alloc (by simp [World.setCell]; omega) _).drew, by rw [HO.out]; exact ⟨A, c, A1, c1, rfl, TokAt.frame HTB.out (frame6 _ _ _ _ _ _ _ _ _) HNE.out, HTI.out.frame HTB.out hpos (frame6 w2 w.heap.size _ _ _ _ _ _ _) HNE.out (by simp), hcc, HK.out.keep (frame6 w2 w.heap.size _ _ _ _ _ _ _).size (fun g hg hl => ⟨(frame6 w2 w.heap.size _ _ _ _ _ _ _).block g hl (by omega), by omega⟩)⟩⟩
        have r7 := row6 R2.out rfl (.int .i64 x1) (.int .i64 x2) (.int .i64 x3) (.string x4) (.int .i64 x5) (.slice A1 k.len c1) (.cells (ncc ⟨x1, x2, x3, x4, x5⟩ A1 k.len c1) 25)
        simp [results, Try.results7, go_sem, r7]
end Pg
end Go.Proofs.Ytnefnnoleeeedaa
