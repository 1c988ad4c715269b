import Derived.Test.YtnefnnoleeeedaaMAB
import Derived.Deep.RegionLaw
import Derived.Laws.OwnMore
import Derived.Deep.CutRange
namespace Go.Proofs.Ytnefnnoleeeedaa
open Go.RowKit
namespace Pg
open Ps
theorem ty_plain {l : List Tok} {f : Nat} {b : Int} {i : Nat} {r : Fo × Nat × Int} (h : tyM l (f + 1) .kind b i = some r) (hb : b < 0) (x : List UInt8) (kd : Nat) (hx : x = kInt ∧ kd = 29 ∨ x = kStr ∧ kd = 30 ∨ x = kDyn ∧ kd = 31) (hm : isM l i x = true) : r = (.one ⟨kd, i, i + 1, e0, 0⟩ .nil, i + 1, b) := by
  rw [tyM, if_neg (by omega)] at h
  rcases hx with ⟨rfl, rfl⟩ | ⟨rfl, rfl⟩ | ⟨rfl, rfl⟩
  · rw [if_pos hm] at h; injection h with h; exact h.symm
  · rw [if_neg (by rw [isM_ne hm (by decide)]; simp), if_pos hm] at h; injection h with h; exact h.symm
  · rw [if_neg (by rw [isM_ne hm (by decide)]; simp), if_neg (by rw [isM_ne hm (by decide)]; simp), if_pos hm] at h; injection h with h; exact h.symm
theorem ty_fn {X : Cx} {f : Nat} {s : Sd} {r : Fo × Sd} (h : tyM X.l (f + 1) .kind s.2 s.1 = some r) (hb : s.2 < 0) (hm : isM X.l s.1 kFn = true) :
    ∃ rl t : Fo × Sd, (∃ q, listM X.l (fun f => tyM X.l f .kind) sParS f true (wantS X (s.1 + 1, s.2) sParO).2 (wantS X (s.1 + 1, s.2) sParO).1 = some q ∧ rl = (q.1, wantM X.l q.2.2 q.2.1 sParS)) ∧ (0 ≤ (wantS X (s.1 + 1, s.2) sParO).2 → rl.2.2 = (wantS X (s.1 + 1, s.2) sParO).2) ∧
      tyM X.l f .kind (wantS X rl.2 sCol).2 (wantS X rl.2 sCol).1 = some t ∧ r = (.one ⟨34, s.1, t.2.1, e0, 0⟩ (rl.1.app t.1), t.2) := by
  have hw : wantM X.l s.2 s.1 kFn = (s.1 + 1, s.2) := by unfold wantM; rw [if_neg (by omega), if_pos hm]
  rw [tyM, if_neg (by omega), if_neg (by rw [isM_ne hm (by decide)]; simp), if_neg (by rw [isM_ne hm (by decide)]; simp), if_neg (by rw [isM_ne hm (by decide)]; simp), if_neg (by rw [isM_ne hm (by decide)]; simp)] at h
  dsimp only at h
  rw [hw] at h
  dsimp only at h
  obtain ⟨q, hq, h⟩ := Option.bind_eq_some_iff.1 h
  obtain ⟨t, ht, h⟩ := Option.bind_eq_some_iff.1 h
  injection h with h
  refine ⟨(q.1, wantM X.l q.2.2 q.2.1 sParS), t, ⟨q, by rw [← fn_list]; exact hq, rfl⟩, fun hh => ?_, ht, h.symm⟩
  have := tyM_bad hh hq
  dsimp only
  rw [wantM_bad (by omega)]
  exact this
theorem RuleQ.none {X : Cx} {P : Prop} {M M' : Sd → Res} {fn : Nat} (h : RuleQ X False M fn) (hM : ∀ s r, s.2 < 0 → P → M' s = some r → False) : RuleQ X P M' fn := fun s w r h1 h2 hS => h s w r (fun hs => (hM s r hs (h1 hs).1 (h1 hs).2).elim) h2 hS
end Pg
end Go.Proofs.Ytnefnnoleeeedaa
namespace Go.Proofs.Ytnefnnoleeeedaa
open Go.RowKit
namespace Pg
open Ps
theorem NodesQ.kv {X : Cx} {n : Nat} {w w' : World} {r : Fo × Sd} {e : Ending} (h : NodesQ X n w r e w') :
    ∃ AL KL cL, e = .returned (.slice AL KL.len cL) ∧ KV w' (fun g => w.heap.size ≤ g) KL AL cL ∧ PSt X w' r.2 ∧ Fr X.rb w.heap.size w w' ∧ (r.2.2 < 0 → r.1 = KL) ∧ KL.len ≤ n ∧ (AL = none → KL.len = 0 ∧ cL = 0) := by
  obtain ⟨v, K, rfl, ⟨cs, o1, o2⟩, hS, hF, hK, hn⟩ := h
  have hv : ∃ A cap, v = .slice A K.len cap ∧ K.len ≤ cap ∧ (A = none → K.len = 0 ∧ cap = 0) := by
    rcases o1.2 with ⟨rfl, e⟩ | ⟨g, cap, cur, rfl, _, _, hc, _⟩
    · exact ⟨none, 0, by rw [e], by omega, fun _ => ⟨e, rfl⟩⟩
    · exact ⟨_, cap, rfl, hc, fun h => by cases h⟩
  obtain ⟨A, cap, rfl, hc, hnn⟩ := hv
  exact ⟨A, K, cap, rfl, KV.of_own o1 rfl o2 (fun g hg => hg.1) (fun g hg _ => hg) hc, hS, hF, hK, hn, hnn⟩
theorem postL_end {l : List Tok} {f : Nat} {a : Fo} {b : Int} {i : Nat} {r : Fo × Nat × Int} (h : exM l f (.postL a) b i = some r) (h1 : isM l i sDot = false) (h2 : isM l i sParO = false) : r = (a, i, b) := by
  cases f with
  | zero => rw [exM] at h; cases h
  | succ f => rw [exM, if_neg (by simp [h1, h2])] at h; injection h with h; exact h.symm
theorem postL_dot {l : List Tok} {f : Nat} {a : Fo} {b : Int} {i : Nat} {r : Fo × Nat × Int} (h : exM l f (.postL a) b i = some r) (hb : b < 0) (hc : isM l i sDot = true) :
    ∃ f', f = f' + 1 ∧ exM l f' (.postL (.one { (wordM l b ⟨19, a.from_, 0, e0, 0⟩ (i + 1)).1 with til := (wordM l b ⟨19, a.from_, 0, e0, 0⟩ (i + 1)).2.1 } a)) (wordM l b ⟨19, a.from_, 0, e0, 0⟩ (i + 1)).2.2 (wordM l b ⟨19, a.from_, 0, e0, 0⟩ (i + 1)).2.1 = some r := by
  cases f with
  | zero => rw [exM] at h; cases h
  | succ f => rw [exM, if_pos ⟨hb, .inl hc⟩, if_pos hc] at h; exact ⟨f, rfl, h⟩
theorem postL_call {l : List Tok} {f : Nat} {a : Fo} {b : Int} {i : Nat} {r : Fo × Nat × Int} (h : exM l f (.postL a) b i = some r) (hb : b < 0) (ho : isM l i sParO = true) :
    ∃ f' q, f = f' + 1 ∧ listM l (fun f => exM l f .expr) sParS f' true b (i + 1) = some q ∧ exM l f' (.postL (.one ⟨20, a.from_, (wantM l q.2.2 q.2.1 sParS).1, e0, 0⟩ (a.app q.1))) (wantM l q.2.2 q.2.1 sParS).2 (wantM l q.2.2 q.2.1 sParS).1 = some r := by
  cases f with
  | zero => rw [exM] at h; cases h
  | succ f =>
    have hc : isM l i sDot = false := isM_ne ho (by decide)
    rw [exM, if_pos ⟨hb, .inr ho⟩, if_neg (by rw [hc]; simp)] at h
    obtain ⟨k, h1, h2⟩ := Option.bind_eq_some_iff.1 h
    exact ⟨f, k, rfl, by rw [← args_list]; exact h1, h2⟩
end Pg
end Go.Proofs.Ytnefnnoleeeedaa
namespace Go.Proofs.Ytnefnnoleeeedaa
open Go.RowKit
namespace Pg
open Ps
def InvB (X : Cx) (P : Prop) (r : Fo × Sd) (p fk : Nat) (sk : Sd) (K : Fo) : Prop :=
  (sk.2 < 0 → P ∧ ∃ q : Fo × Sd, exM X.l fk .stmts sk.2 sk.1 = some q ∧ r = (.one ⟨6, p, (wantM X.l q.2.2 q.2.1 sShut).1, e0, 0⟩ (K.app q.1), wantM X.l q.2.2 q.2.1 sShut)) ∧ (0 ≤ sk.2 → r.2.2 = sk.2)
theorem InvB.stop {X : Cx} {P : Prop} {r : Fo × Sd} {p fk : Nat} {sk : Sd} {K : Fo} (h : InvB X P r p fk sk K) (hb : sk.2 < 0) (hm : isM X.l sk.1 sShut = true) : r = (.one ⟨6, p, sk.1 + 1, e0, 0⟩ K, (sk.1 + 1, sk.2)) := by
  obtain ⟨hP, q, hq, hr⟩ := h.1 hb
  have hw : wantM X.l sk.2 sk.1 sShut = (sk.1 + 1, sk.2) := by unfold wantM; rw [if_neg (by omega), if_pos hm]
  cases fk with
  | zero => rw [exM] at hq; cases hq
  | succ fk =>
    rw [exM, if_neg (fun hh => hh.2 hm)] at hq
    injection hq with hq
    subst hq
    dsimp only at hr
    rw [hw, Fo.app_nil] at hr
    exact hr
theorem InvB.go {X : Cx} {P : Prop} {r : Fo × Sd} {p fk : Nat} {sk : Sd} {K : Fo} (h : InvB X P r p fk sk K) (hb : sk.2 < 0) (hm : isM X.l sk.1 sShut = false) :
    ∃ f' t, fk = f' + 1 ∧ P ∧ exM X.l f' .stmt sk.2 sk.1 = some t ∧ ∀ h k, (t.2.2 < 0 → t.1 = .one h k) → InvB X P r p f' t.2 (K.app (.one h k)) := by
  obtain ⟨hP, q, hq, hr⟩ := h.1 hb
  cases fk with
  | zero => rw [exM] at hq; cases hq
  | succ fk =>
    rw [exM, if_pos ⟨hb, by rw [hm]; simp⟩] at hq
    obtain ⟨t, ht, hq⟩ := Option.bind_eq_some_iff.1 hq
    obtain ⟨q', hq', e⟩ := Option.map_eq_some_iff.1 hq
    refine ⟨fk, t, rfl, hP, ht, fun h k hn => ⟨fun hg => ⟨hP, q', hq', ?_⟩, fun hg => ?_⟩⟩
    · rw [hr, ← e, hn hg, Fo.app_assoc]
    · rw [hr, ← e]
      dsimp only
      rw [exM_bad _ _ _ _ _ hg hq'] 
      have := exM_bad _ _ _ _ _ hg hq'
      rw [wantM_bad (by omega)]
end Pg
end Go.Proofs.Ytnefnnoleeeedaa
namespace Go.Proofs.Ytnefnnoleeeedaa
open Go.RowKit
namespace Pg
open Ps
def itemM (l : List Tok) (f : Nat) (s : Sd) : Res := if isM l s.1 kUse = true then some (useM l s.2 s.1) else defM l f s.2 s.1
def InvF (X : Cx) (P : Prop) (r : Fo × Sd) (fk : Nat) (sk : Sd) (K : Fo) : Prop :=
  (sk.2 < 0 → P ∧ ∃ q : Fo × Sd, itemsM X.l fk sk.2 sk.1 = some q ∧ r = (.one ⟨1, 0, q.2.1, e0, 0⟩ (K.app q.1), q.2)) ∧ (0 ≤ sk.2 → r.2.2 = sk.2)
theorem items_bad {l : List Tok} {f : Nat} {b : Int} {i : Nat} {r : Fo × Nat × Int} (hb : 0 ≤ b) (h : itemsM l f b i = some r) : r.2.2 = b := by
  cases f with
  | zero => rw [itemsM] at h; cases h
  | succ f => rw [itemsM, if_neg (fun hh => by have := hh.1; omega)] at h; injection h with h; rw [← h]
theorem InvF.stop {X : Cx} {P : Prop} {r : Fo × Sd} {fk : Nat} {sk : Sd} {K : Fo} (h : InvF X P r fk sk K) (hb : sk.2 < 0) (hm : kindAt X.l sk.1 = 0) : r = (.one ⟨1, 0, sk.1, e0, 0⟩ K, sk) := by
  obtain ⟨hP, q, hq, hr⟩ := h.1 hb
  cases fk with
  | zero => rw [itemsM] at hq; cases hq
  | succ fk =>
    rw [itemsM, if_neg (fun hh => hh.2 hm)] at hq
    injection hq with hq
    subst hq
    rw [hr, Fo.app_nil]
theorem InvF.go {X : Cx} {P : Prop} {r : Fo × Sd} {fk : Nat} {sk : Sd} {K : Fo} (h : InvF X P r fk sk K) (hb : sk.2 < 0) (hm : kindAt X.l sk.1 ≠ 0) :
    ∃ f' t, fk = f' + 1 ∧ P ∧ itemM X.l f' sk = some t ∧ ∀ h k, (t.2.2 < 0 → t.1 = .one h k) → InvF X P r f' t.2 (K.app (.one h k)) := by
  obtain ⟨hP, q, hq, hr⟩ := h.1 hb
  cases fk with
  | zero => rw [itemsM] at hq; cases hq
  | succ fk =>
    have key : ∃ t : Fo × Sd, itemM X.l fk sk = some t ∧ (itemsM X.l fk t.2.2 t.2.1).pre t.1 = some q := by
      rw [itemsM, if_pos ⟨hb, hm⟩] at hq
      unfold itemM
      split at hq
      · rename_i hu
        exact ⟨_, by rw [if_pos hu], hq⟩
      · rename_i hu
        obtain ⟨t, ht, hq⟩ := Option.bind_eq_some_iff.1 hq
        exact ⟨t, by rw [if_neg hu]; exact ht, hq⟩
    obtain ⟨t, ht, hq⟩ := key
    obtain ⟨q', hq', e⟩ := Option.map_eq_some_iff.1 hq
    refine ⟨fk, t, rfl, hP, ht, fun h k hn => ⟨fun hg => ⟨hP, q', hq', ?_⟩, fun hg => ?_⟩⟩
    · rw [hr, ← e, hn hg, Fo.app_assoc]
    · rw [hr, ← e]
      exact (items_bad hg hq' : q'.2.2 = t.2.2)
end Pg
end Go.Proofs.Ytnefnnoleeeedaa
namespace Go.Proofs.Ytnefnnoleeeedaa
namespace Ps
open Pg
variable {l : List Tok}
def named (k : Nat) : Prop := k = 5 ∨ k = 7 ∨ k = 8 ∨ k = 23
def nodeOK (l : List Tok) (h : Hd) (a t : Nat) : Prop := if h.kind = 0 then h.fro = 0 ∧ h.til = 0 ∧ h.word = e0 else a ≤ h.fro ∧ h.til ≤ t ∧ h.fro ≤ h.til ∧ ((h.word = e0 ∧ ¬ named h.kind) ∨ ((∃ j, h.word = textAt l j) ∧ h.fro ≤ h.at_ ∧ h.at_ < h.til))
def useOK (l : List Tok) (_h : Hd) : Fo → Prop
  | .nil => True
  | .cons hk kk r => kk = .nil ∧ r = .nil ∧ ∃ j, hk.word = textAt l j
def Apt (l : List Tok) : Fo → Nat → Nat → Prop
  | .nil, _, _ => True
  | .cons h k r, a, t => nodeOK l h a t ∧ (h.kind = 0 → k = .nil) ∧ (h.kind = 2 → useOK l h k) ∧ (h.kind ≠ 0 → h.kind ≠ 2 → Apt l k h.fro h.til) ∧ Apt l r (if h.kind = 0 then a else h.til) t
theorem nodeOK.mono {h : Hd} {a a' t t' : Nat} (hh : nodeOK l h a t) (ha : a' ≤ a) (ht : t ≤ t') : nodeOK l h a' t' := by
  unfold nodeOK at hh ⊢
  split at hh
  · rename_i h0; rw [if_pos h0]; exact hh
  · rename_i h0; rw [if_neg h0]; exact ⟨by omega, by omega, hh.2.2.1, hh.2.2.2⟩
theorem Apt.mono : ∀ {k : Fo} {a a' t t' : Nat}, Apt l k a t → a' ≤ a → t ≤ t' → Apt l k a' t'
  | .nil, _, _, _, _, _, _, _ => trivial
  | .cons h k r, a, a', t, t', ⟨h1, h2, h3, h4, h5⟩, ha, ht => ⟨h1.mono ha ht, h2, h3, h4, Apt.mono h5 (by split <;> omega) ht⟩
theorem Apt.app : ∀ {k m : Fo} {a y t : Nat}, Apt l k a y → Apt l m y t → a ≤ y → y ≤ t → Apt l (k.app m) a t
  | .nil, m, a, y, t, _, hm, ha, _ => hm.mono ha (Nat.le_refl _)
  | .cons h k r, m, a, y, t, ⟨h1, h2, h3, h4, h5⟩, hm, ha, ht => ⟨h1.mono (Nat.le_refl _) ht, h2, h3, h4, Apt.app h5 hm (by
      unfold nodeOK at h1
      split
      · exact ha
      · rename_i h0; rw [if_neg h0] at h1; exact h1.2.1) ht⟩
theorem Apt.zero (a t : Nat) : Apt l .zero a t := ⟨by unfold nodeOK; rw [if_pos rfl]; exact ⟨rfl, rfl, rfl⟩, fun _ => rfl, fun h => (by cases h), fun h => absurd rfl h, trivial⟩
theorem Apt.one {h : Hd} {k : Fo} {a t x y : Nat} (h0 : h.kind ≠ 0) (h2 : h.kind ≠ 2) (hk : Apt l k x y) (hx : h.fro ≤ x) (hy : y ≤ h.til) (ha : a ≤ h.fro) (ht : h.til ≤ t) (hft : h.fro ≤ h.til) (hw : (h.word = e0 ∧ ¬ named h.kind) ∨ ((∃ j, h.word = textAt l j) ∧ h.fro ≤ h.at_ ∧ h.at_ < h.til)) : Apt l (.one h k) a t :=
  ⟨by unfold nodeOK; rw [if_neg h0]; exact ⟨ha, ht, hft, hw⟩, fun e => absurd e h0, fun e => absurd e h2, fun _ _ => hk.mono hx hy, trivial⟩
theorem wantM_good {b : Int} {i : Nat} {x : List UInt8} (h : (wantM l b i x).2 < 0) : b < 0 ∧ isM l i x = true ∧ wantM l b i x = (i + 1, b) := by
  unfold wantM at h ⊢
  split at h
  · exact absurd h (by dsimp only; omega)
  · split at h
    · rename_i h1 h2
      rw [if_neg h1, if_pos h2]
      exact ⟨by omega, h2, rfl⟩
    · exact absurd h (by dsimp only; omega)
theorem wordM_good {b : Int} {i : Nat} {hd : Hd} (h : (wordM l b hd i).2.2 < 0) : b < 0 ∧ kindAt l i = 1 ∧ wordM l b hd i = ({ hd with word := textAt l i, at_ := i }, i + 1, b) := by
  unfold wordM at h ⊢
  split at h
  · exact absurd h (by dsimp only; omega)
  · split at h
    · rename_i h1 h2
      rw [if_neg h1, if_pos h2]
      exact ⟨by omega, h2, rfl⟩
    · exact absurd h (by dsimp only; omega)
theorem exM_was {f : Nat} {t : XT} {b : Int} {i : Nat} {r : Fo × Nat × Int} (h : exM l f t b i = some r) (hr : r.2.2 < 0) : b < 0 := by
  by_cases hb : 0 ≤ b
  · have := exM_bad f t b i r hb h; omega
  · omega
end Ps
namespace Pg
open Ps
theorem isM_kind {l : List Tok} {i : Nat} {x : List UInt8} (h : isM l i x = true) : kindAt l i = 2 ∨ kindAt l i = 5 := by
  unfold isM at h
  unfold kindAt
  cases hl : l[i]? with
  | none => rw [hl] at h; cases h
  | some t =>
    rw [hl] at h
    simp only [Bool.and_eq_true, Bool.or_eq_true, beq_iff_eq] at h
    exact h.1
def closeM (l : List Tok) (f kd fr : Nat) (s : Sd) : Res := (exM l f .expr s.2 s.1).bind fun v => some (.one ⟨kd, fr, (wantM l v.2.2 v.2.1 sSem).1, e0, 0⟩ v.1, wantM l v.2.2 v.2.1 sSem)
def otherM (l : List Tok) (f : Nat) (s : Sd) : Res := if s.2 < 0 ∧ isM l s.1 kElse = true then exM l f .block s.2 (s.1 + 1) else some (.zero, s)
theorem wordM_snd {l : List Tok} (b : Int) (h h' : Hd) (i : Nat) : (wordM l b h i).2 = (wordM l b h' i).2 := by
  unfold wordM
  split
  · rfl
  · split <;> rfl
section
variable {l : List Tok} {f : Nat} {b : Int} {i p : Nat} {r : Fo × Nat × Int}
theorem st_word (h : exM l (f + 1) .stmt b i = some r) (hp : p = i) (hb : b < 0) (hk : kindAt l i = 1) (hq : isM l (i + 1) sEq = true) :
    ∃ v : Fo × Nat × Int, exM l f .expr b (i + 2) = some v ∧ r = (.one ⟨8, p, (wantM l v.2.2 v.2.1 sSem).1, textAt l i, i⟩ v.1, wantM l v.2.2 v.2.1 sSem) := by
  have no : ∀ x, isM l i x = false := fun x => by
    cases hx : isM l i x with
    | false => rfl
    | true => have := isM_kind hx; omega
  rw [exM, if_neg (by rw [no]; simp), if_neg (by rw [no]; simp), if_neg (by rw [no]; simp)] at h
  dsimp only at h
  rw [if_neg (by rw [no]; simp), if_neg (by rw [no]; simp), if_pos ⟨hk, hq⟩] at h
  have hw : wordM l b ⟨8, i, 0, e0, 0⟩ i = (⟨8, i, 0, textAt l i, i⟩, i + 1, b) := by unfold wordM; rw [if_neg (by omega), if_pos hk]
  rw [hw] at h
  obtain ⟨v, hv, h⟩ := Option.bind_eq_some_iff.1 h
  injection h with h
  exact ⟨v, hv, by rw [← h, hp]⟩
theorem st_let (h : exM l (f + 1) .stmt b i = some r) (hp : p = i) (hm : isM l i kLet = true) :
    ∃ t v : Fo × Nat × Int, typedM l f (wordM l b ⟨0, 0, 0, e0, 0⟩ (i + 1)).2.2 (wordM l b ⟨0, 0, 0, e0, 0⟩ (i + 1)).2.1 = some t ∧ exM l f .expr (wantM l t.2.2 t.2.1 sEq).2 (wantM l t.2.2 t.2.1 sEq).1 = some v ∧
      r = (.one { (wordM l b ⟨7, p, 0, e0, 0⟩ (i + 1)).1 with til := (wantM l v.2.2 v.2.1 sSem).1 } (t.1.app v.1), wantM l v.2.2 v.2.1 sSem) := by
  rw [exM, if_neg (by rw [isM_ne hm (by decide)]; simp), if_neg (by rw [isM_ne hm (by decide)]; simp), if_pos hm] at h
  dsimp only at h
  rw [wordM_snd b ⟨7, i, 0, e0, 0⟩ ⟨0, 0, 0, e0, 0⟩ (i + 1)] at h
  obtain ⟨t, ht, h⟩ := Option.bind_eq_some_iff.1 h
  obtain ⟨v, hv, h⟩ := Option.bind_eq_some_iff.1 h
  injection h with h
  exact ⟨t, v, ht, hv, by rw [← h, hp]⟩
theorem st_if (h : exM l (f + 1) .stmt b i = some r) (hp : p = i) (hm : isM l i kIf = true) :
    ∃ c k o : Fo × Nat × Int, exM l f .expr b (i + 1) = some c ∧ exM l f .block c.2.2 c.2.1 = some k ∧ otherM l f k.2 = some o ∧ r = (.one ⟨9, p, o.2.1, e0, 0⟩ (c.1.app (k.1.app o.1)), o.2) := by
  rw [exM, if_pos hm] at h
  obtain ⟨c, hc, h⟩ := Option.bind_eq_some_iff.1 h
  obtain ⟨k, hk, h⟩ := Option.bind_eq_some_iff.1 h
  split at h
  · rename_i hh
    obtain ⟨o, ho, h⟩ := Option.bind_eq_some_iff.1 h
    injection h with h
    exact ⟨c, k, o, hc, hk, by unfold otherM; rw [if_pos hh]; exact ho, by rw [← h, hp]⟩
  · rename_i hh
    injection h with h
    exact ⟨c, k, (.zero, k.2), hc, hk, by unfold otherM; rw [if_neg hh], by rw [← h, hp]⟩
theorem st_while (h : exM l (f + 1) .stmt b i = some r) (hp : p = i) (hm : isM l i kWhile = true) :
    ∃ c k : Fo × Nat × Int, exM l f .expr b (i + 1) = some c ∧ exM l f .block c.2.2 c.2.1 = some k ∧ r = (.one ⟨10, p, k.2.1, e0, 0⟩ (c.1.app k.1), k.2) := by
  rw [exM, if_neg (by rw [isM_ne hm (by decide)]; simp), if_pos hm] at h
  obtain ⟨c, hc, h⟩ := Option.bind_eq_some_iff.1 h
  obtain ⟨k, hk, h⟩ := Option.bind_eq_some_iff.1 h
  injection h with h
  exact ⟨c, k, hc, hk, by rw [← h, hp]⟩
theorem st_print (h : exM l (f + 1) .stmt b i = some r) (hp : p = i) (hm : isM l i kPrint = true) : closeM l f 11 p (i + 1, b) = some r := by
  rw [exM, if_neg (by rw [isM_ne hm (by decide)]; simp), if_neg (by rw [isM_ne hm (by decide)]; simp), if_neg (by rw [isM_ne hm (by decide)]; simp)] at h
  dsimp only at h
  rw [if_pos hm] at h
  rw [hp]
  exact h
theorem st_return (h : exM l (f + 1) .stmt b i = some r) (hp : p = i) (hm : isM l i kReturn = true) : closeM l f 12 p (i + 1, b) = some r := by
  rw [exM, if_neg (by rw [isM_ne hm (by decide)]; simp), if_neg (by rw [isM_ne hm (by decide)]; simp), if_neg (by rw [isM_ne hm (by decide)]; simp)] at h
  dsimp only at h
  rw [if_neg (by rw [isM_ne hm (by decide)]; simp), if_pos hm] at h
  rw [hp]
  exact h
theorem st_do (h : exM l (f + 1) .stmt b i = some r) (hp : p = i) (h1 : isM l i kLet = false) (h2 : isM l i kIf = false) (h3 : isM l i kWhile = false) (h4 : isM l i kPrint = false) (h5 : isM l i kReturn = false) (h6 : ¬ (kindAt l i = 1 ∧ isM l (i + 1) sEq = true)) : closeM l f 13 p (i, b) = some r := by
  rw [exM, if_neg (by rw [h2]; simp), if_neg (by rw [h3]; simp), if_neg (by rw [h1]; simp)] at h
  dsimp only at h
  rw [if_neg (by rw [h4]; simp), if_neg (by rw [h5]; simp), if_neg h6] at h
  rw [hp]
  exact h
theorem other_bad {s : Sd} (hb : 0 ≤ s.2) (h : otherM l f s = some r) : r.2.2 = s.2 := by
  unfold otherM at h
  rw [if_neg (fun hh => by have := hh.1; omega)] at h
  injection h with h
  rw [← h]
end
end Pg
namespace Ps
open Pg
variable {l : List Tok}
theorem want_g {b : Int} {i : Nat} {x : List UInt8} (h : (wantM l b i x).2 < 0) : b < 0 ∧ (wantM l b i x).1 = i + 1 ∧ (wantM l b i x).2 = b := by
  obtain ⟨h1, _, h3⟩ := wantM_good h
  rw [h3]; exact ⟨h1, rfl, rfl⟩
theorem word_g {b : Int} {i : Nat} {hd : Hd} (h : (wordM l b hd i).2.2 < 0) : b < 0 ∧ (wordM l b hd i).1 = { hd with word := textAt l i, at_ := i } ∧ (wordM l b hd i).2.1 = i + 1 ∧ (wordM l b hd i).2.2 = b := by
  obtain ⟨h1, _, h3⟩ := wordM_good h
  rw [h3]; exact ⟨h1, rfl, rfl, rfl⟩
theorem ty_was {f : Nat} {t : TT} {b : Int} {i : Nat} {r : Fo × Nat × Int} (h : tyM l f t b i = some r) (hr : r.2.2 < 0) : b < 0 := by
  by_cases hb : 0 ≤ b
  · have := tyM_bad hb h; omega
  · omega
theorem typed_was {f : Nat} {b : Int} {i : Nat} {r : Fo × Nat × Int} (h : typedM l f b i = some r) (hr : r.2.2 < 0) : b < 0 := by
  by_cases hb : 0 ≤ b
  · have := typedM_bad hb h; omega
  · omega
theorem ty_apt : ∀ (f : Nat) (t : TT) (b : Int) (i : Nat) (r : Fo × Nat × Int), tyM l f t b i = some r → r.2.2 < 0 → Apt l r.1 i r.2.1 ∧ i + sT t ≤ r.2.1 := by
  intro f
  induction f with
  | zero => intro t b i r h; rw [tyM] at h; cases h
  | succ f ih =>
    intro t b i r h hr
    have hb := ty_was h hr
    cases t with
    | kind =>
      simp only [sT]
      rw [tyM, if_neg (by omega)] at h
      split at h
      · injection h with h; subst h; exact ⟨Apt.one (by dsimp only; omega) (by dsimp only; omega) (show Apt l .nil i i from trivial) (Nat.le_refl _) (Nat.le_succ _) (Nat.le_refl _) (Nat.le_refl _) (Nat.le_succ _) (.inl ⟨rfl, by dsimp only [named]; first | omega | (split <;> omega)⟩), Nat.le_refl _⟩
      · split at h
        · injection h with h; subst h; exact ⟨Apt.one (by dsimp only; omega) (by dsimp only; omega) (show Apt l .nil i i from trivial) (Nat.le_refl _) (Nat.le_succ _) (Nat.le_refl _) (Nat.le_refl _) (Nat.le_succ _) (.inl ⟨rfl, by dsimp only [named]; first | omega | (split <;> omega)⟩), Nat.le_refl _⟩
        · split at h
          · injection h with h; subst h; exact ⟨Apt.one (by dsimp only; omega) (by dsimp only; omega) (show Apt l .nil i i from trivial) (Nat.le_refl _) (Nat.le_succ _) (Nat.le_refl _) (Nat.le_refl _) (Nat.le_succ _) (.inl ⟨rfl, by dsimp only [named]; first | omega | (split <;> omega)⟩), Nat.le_refl _⟩
          · split at h
            · obtain ⟨x, hx, h⟩ := Option.bind_eq_some_iff.1 h
              injection h with h; subst h
              obtain ⟨g1, g2, _⟩ := want_g hr
              obtain ⟨a1, a2⟩ := ih _ _ _ _ hx g1
              dsimp only at *
              refine ⟨Apt.one (by dsimp only; omega) (by dsimp only; omega) a1 (by dsimp only; omega) (by dsimp only; omega) (Nat.le_refl _) (Nat.le_refl _) (by dsimp only; omega) (.inl ⟨rfl, by dsimp only [named]; first | omega | (split <;> omega)⟩), by omega⟩
            · obtain ⟨x, hx, h⟩ := Option.bind_eq_some_iff.1 h
              obtain ⟨t, ht, h⟩ := Option.bind_eq_some_iff.1 h
              injection h with h; subst h
              obtain ⟨b1, b2⟩ := ih _ _ _ _ ht hr
              have g4 := ty_was ht hr
              obtain ⟨g3, q4, _⟩ := want_g g4
              obtain ⟨g2, q3, _⟩ := want_g g3
              obtain ⟨a1, a2⟩ := ih _ _ _ _ hx g2
              have g1 := ty_was hx g2
              obtain ⟨g0, q2, _⟩ := want_g g1
              obtain ⟨_, q1, _⟩ := want_g g0
              simp only [sT] at b2
              dsimp only at *
              refine ⟨Apt.one (by dsimp only; omega) (by dsimp only; omega) (Apt.app a1 (b1.mono (by omega) (Nat.le_refl _)) (by omega) (by omega)) (by dsimp only; omega) (Nat.le_refl _) (Nat.le_refl _) (Nat.le_refl _) (by dsimp only; omega) (.inl ⟨rfl, by dsimp only [named]; first | omega | (split <;> omega)⟩), by omega⟩
    | recL first =>
      simp only [sT]
      rw [tyM] at h
      split at h
      · obtain ⟨t, ht, h⟩ := Option.bind_eq_some_iff.1 h
        have key : t.2.2 < 0 → Apt l (.one { (wordM l b ⟨33, i, 0, e0, 0⟩ i).1 with til := t.2.1 } t.1) i t.2.1 ∧ i ≤ t.2.1 := fun hg => by
          obtain ⟨a1, a2⟩ := ih _ _ _ _ ht hg
          have g2 := ty_was ht hg
          obtain ⟨g1, q2, _⟩ := want_g g2
          obtain ⟨_, q0, q1, _⟩ := word_g g1
          rw [q0]
          simp only [sT] at a2
          refine ⟨Apt.one (by dsimp only; omega) (by dsimp only; omega) a1 (by dsimp only; omega) (Nat.le_refl _) (Nat.le_refl _) (Nat.le_refl _) (by dsimp only; omega) (.inr ⟨⟨_, rfl⟩, Nat.le_refl _, by dsimp only; omega⟩), by omega⟩
        split at h
        · injection h with h; subst h
          exact key hr
        · obtain ⟨x, hx, h⟩ := Option.map_eq_some_iff.1 h
          subst h
          obtain ⟨c1, c2⟩ := ih _ _ _ _ hx hr
          have g4 := ty_was hx hr
          obtain ⟨g3, q3, _⟩ := want_g g4
          obtain ⟨d1, d2⟩ := key g3
          simp only [sT] at c2
          exact ⟨Apt.app d1 (c1.mono (by omega) (Nat.le_refl _)) d2 (by dsimp only; omega), by dsimp only; omega⟩
      · injection h with h; subst h; exact ⟨trivial, Nat.le_refl _⟩
    | fnL first =>
      simp only [sT]
      rw [tyM] at h
      split at h
      · obtain ⟨t, ht, h⟩ := Option.bind_eq_some_iff.1 h
        split at h
        · injection h with h; subst h
          obtain ⟨a1, a2⟩ := ih _ _ _ _ ht hr
          simp only [sT] at a2
          exact ⟨a1, by dsimp only; omega⟩
        · obtain ⟨x, hx, h⟩ := Option.map_eq_some_iff.1 h
          subst h
          obtain ⟨c1, c2⟩ := ih _ _ _ _ hx hr
          have g4 := ty_was hx hr
          obtain ⟨g3, q3, _⟩ := want_g g4
          obtain ⟨d1, d2⟩ := ih _ _ _ _ ht g3
          simp only [sT] at c2
          simp only [sT] at d2
          exact ⟨Apt.app d1 (c1.mono (by omega) (Nat.le_refl _)) (by omega) (by dsimp only; omega), by dsimp only; omega⟩
      · injection h with h; subst h; exact ⟨trivial, Nat.le_refl _⟩
theorem typed_apt {f : Nat} {b : Int} {i : Nat} {r : Fo × Nat × Int} (h : typedM l f b i = some r) (hr : r.2.2 < 0) : Apt l r.1 i r.2.1 ∧ i ≤ r.2.1 := by
  unfold typedM at h
  split at h
  · injection h with h; subst h; exact ⟨Apt.zero _ _, Nat.le_refl _⟩
  · obtain ⟨a1, a2⟩ := ty_apt _ _ _ _ _ h hr
    simp only [sT] at a2
    exact ⟨a1.mono (by omega) (Nat.le_refl _), by omega⟩
theorem parL_was {f : Nat} {first : Bool} {b : Int} {i : Nat} {r : Fo × Nat × Int} (h : parL l f first b i = some r) (hr : r.2.2 < 0) : b < 0 := by
  by_cases hb : 0 ≤ b
  · have := parL_bad hb h; omega
  · omega
theorem par_apt : ∀ (f : Nat) (first : Bool) (b : Int) (i : Nat) (r : Fo × Nat × Int), parL l f first b i = some r → r.2.2 < 0 → Apt l r.1 i r.2.1 ∧ i ≤ r.2.1 := by
  intro f
  induction f with
  | zero => intro first b i r h; rw [parL] at h; cases h
  | succ f ih =>
    intro first b i r h hr
    rw [parL] at h
    split at h
    · obtain ⟨t, ht, h⟩ := Option.bind_eq_some_iff.1 h
      have key : t.2.2 < 0 → Apt l (.one { (wordM l b ⟨5, i, 0, e0, 0⟩ i).1 with til := t.2.1 } t.1) i t.2.1 ∧ i ≤ t.2.1 := fun hg => by
        obtain ⟨a1, a2⟩ := typed_apt ht hg
        have g1 := typed_was ht hg
        obtain ⟨_, q0, q1, _⟩ := word_g g1
        rw [q0]
        exact ⟨Apt.one (by dsimp only; omega) (by dsimp only; omega) a1 (by dsimp only; omega) (Nat.le_refl _) (Nat.le_refl _) (Nat.le_refl _) (by dsimp only; omega) (.inr ⟨⟨_, rfl⟩, Nat.le_refl _, by dsimp only; omega⟩), by omega⟩
      split at h
      · injection h with h; subst h; exact key hr
      · obtain ⟨x, hx, h⟩ := Option.map_eq_some_iff.1 h
        subst h
        obtain ⟨c1, c2⟩ := ih _ _ _ _ hx hr
        have g4 := parL_was hx hr
        obtain ⟨g3, q3, _⟩ := want_g g4
        obtain ⟨d1, d2⟩ := key g3
        exact ⟨Apt.app d1 (c1.mono (by omega) (Nat.le_refl _)) d2 (by dsimp only; omega), by dsimp only; omega⟩
    · injection h with h; subst h; exact ⟨trivial, Nat.le_refl _⟩
theorem params_apt {f : Nat} {b : Int} {i : Nat} {r : Fo × Nat × Int} (h : paramsM l f b i = some r) (hr : r.2.2 < 0) : Apt l r.1 i r.2.1 ∧ i < r.2.1 := by
  unfold paramsM at h
  obtain ⟨x, hx, h⟩ := Option.bind_eq_some_iff.1 h
  injection h with h; subst h
  obtain ⟨g2, q2, _⟩ := want_g hr
  obtain ⟨a1, a2⟩ := par_apt _ _ _ _ _ hx g2
  have g1 := parL_was hx g2
  obtain ⟨_, q1, _⟩ := want_g g1
  dsimp only at *
  exact ⟨Apt.one (by dsimp only; omega) (by dsimp only; omega) a1 (by dsimp only; omega) (by dsimp only; omega) (Nat.le_refl _) (Nat.le_refl _) (by dsimp only; omega) (.inl ⟨rfl, by dsimp only [named]; first | omega | (split <;> omega)⟩), by omega⟩
def Pre (l : List Tok) : XT → Nat → Prop
  | .sumL a, i | .termL a, i | .postL a, i => Apt l a a.from_ i ∧ a.from_ ≤ i
  | _, _ => True
def Post (l : List Tok) : XT → Nat → Fo → Nat → Prop
  | .sumL a, i, k, j | .termL a, i, k, j | .postL a, i, k, j => Apt l k k.from_ j ∧ k.from_ = a.from_ ∧ i ≤ j
  | .stmts, i, k, j | .args _, i, k, j | .entries _, i, k, j => Apt l k i j ∧ i ≤ j
  | .expr, i, k, j | .sum, i, k, j | .term, i, k, j | .post, i, k, j | .atom, i, k, j => Apt l k i j ∧ i < j ∧ k.from_ = i
  | _, i, k, j => Apt l k i j ∧ i < j
theorem ex_apt : ∀ (f : Nat) (t : XT) (b : Int) (i : Nat) (r : Fo × Nat × Int), exM l f t b i = some r → r.2.2 < 0 → Pre l t i → Post l t i r.1 r.2.1 := by
  intro f
  induction f with
  | zero => intro t b i r h; rw [exM] at h; cases h
  | succ f ih =>
    intro t b i r h hr hpre
    have hb := exM_was h hr
    cases t with
    | lambda =>
      rw [exM] at h
      obtain ⟨p, h1, h⟩ := Option.bind_eq_some_iff.1 h
      obtain ⟨t, h2, h⟩ := Option.bind_eq_some_iff.1 h
      obtain ⟨k, h3, h⟩ := Option.bind_eq_some_iff.1 h
      injection h with h; subst h
      obtain ⟨a3, q3⟩ := ih _ _ _ _ h3 hr trivial
      have g2 := exM_was h3 hr
      obtain ⟨a2, q2⟩ := typed_apt h2 g2
      have g1 := typed_was h2 g2
      obtain ⟨a1, q1⟩ := params_apt h1 g1
      exact ⟨Apt.app a1 (Apt.app a2 a3 q2 (by dsimp only; omega)) (by omega) (by dsimp only; omega), by dsimp only; omega⟩
    | block =>
      rw [exM] at h
      obtain ⟨x, h1, h⟩ := Option.bind_eq_some_iff.1 h
      injection h with h; subst h
      obtain ⟨g2, q2, _⟩ := want_g hr
      obtain ⟨a1, q1⟩ := ih _ _ _ _ h1 g2 trivial
      have g1 := exM_was h1 g2
      obtain ⟨_, q0, _⟩ := want_g g1
      dsimp only at *
      exact ⟨Apt.one (by dsimp only; omega) (by dsimp only; omega) a1 (by dsimp only; omega) (by dsimp only; omega) (Nat.le_refl _) (Nat.le_refl _) (by dsimp only; omega) (.inl ⟨rfl, by dsimp only [named]; first | omega | (split <;> omega)⟩), by omega⟩
    | stmts =>
      rw [exM] at h
      split at h
      · obtain ⟨x, h1, h⟩ := Option.bind_eq_some_iff.1 h
        obtain ⟨y, h2, h⟩ := Option.map_eq_some_iff.1 h
        subst h
        obtain ⟨a2, q2⟩ := ih _ _ _ _ h2 hr trivial
        obtain ⟨a1, q1⟩ := ih _ _ _ _ h1 (exM_was h2 hr) trivial
        exact ⟨Apt.app a1 a2 (by omega) q2, by dsimp only; omega⟩
      · injection h with h; subst h; exact ⟨trivial, Nat.le_refl _⟩
    | stmt =>
      by_cases hif : isM l i kIf = true
      · obtain ⟨c, k, o, hc, hk, ho, e⟩ := st_if h rfl hif
        subst e
        have gk : k.2.2 < 0 := by
          by_cases hh : 0 ≤ k.2.2
          · have := other_bad hh ho; dsimp only at hr; omega
          · omega
        have ao : Apt l o.1 k.2.1 o.2.1 ∧ k.2.1 ≤ o.2.1 := by
          unfold otherM at ho
          split at ho
          · obtain ⟨a3, q3⟩ := ih _ _ _ _ ho hr trivial
            exact ⟨a3.mono (by omega) (Nat.le_refl _), by omega⟩
          · injection ho with ho; rw [← ho]; exact ⟨Apt.zero _ _, Nat.le_refl _⟩
        obtain ⟨a2, q2⟩ := ih _ _ _ _ hk gk trivial
        obtain ⟨a1, q1, _⟩ := ih _ _ _ _ hc (exM_was hk gk) trivial
        exact ⟨Apt.one (by dsimp only; omega) (by dsimp only; omega) (Apt.app a1 (Apt.app a2 ao.1 (by omega) ao.2) (by omega) (by omega)) (by dsimp only; omega) (Nat.le_refl _) (Nat.le_refl _) (Nat.le_refl _) (by dsimp only; omega) (.inl ⟨rfl, by dsimp only [named]; first | omega | (split <;> omega)⟩), by dsimp only; omega⟩
      · by_cases hwh : isM l i kWhile = true
        · obtain ⟨c, k, hc, hk, e⟩ := st_while h rfl hwh
          subst e
          obtain ⟨a2, q2⟩ := ih _ _ _ _ hk hr trivial
          obtain ⟨a1, q1, _⟩ := ih _ _ _ _ hc (exM_was hk hr) trivial
          exact ⟨Apt.one (by dsimp only; omega) (by dsimp only; omega) (Apt.app a1 a2 (by omega) (by omega)) (by dsimp only; omega) (Nat.le_refl _) (Nat.le_refl _) (Nat.le_refl _) (by dsimp only; omega) (.inl ⟨rfl, by dsimp only [named]; first | omega | (split <;> omega)⟩), by dsimp only; omega⟩
        · by_cases hlet : isM l i kLet = true
          · obtain ⟨t, v, ht, hv, e⟩ := st_let h rfl hlet
            subst e
            obtain ⟨g3, q3, _⟩ := want_g hr
            obtain ⟨a2, q2, _⟩ := ih _ _ _ _ hv g3 trivial
            have g2 := exM_was hv g3
            obtain ⟨g1, q1, _⟩ := want_g g2
            obtain ⟨a1, p1⟩ := typed_apt ht g1
            have g0 := typed_was ht g1
            have e1 : (wordM l b ⟨7, i, 0, e0, 0⟩ (i + 1)).2 = (wordM l b ⟨0, 0, 0, e0, 0⟩ (i + 1)).2 := wordM_snd _ _ _ _
            rw [← e1] at g0 a1 p1
            obtain ⟨_, w0, w1, _⟩ := word_g g0
            rw [w0]
            dsimp only at *
            exact ⟨Apt.one (by dsimp only; omega) (by dsimp only; omega) (Apt.app a1 (a2.mono (by omega) (Nat.le_refl _)) p1 (by omega)) (by dsimp only; omega) (by dsimp only; omega) (Nat.le_refl _) (Nat.le_refl _) (by dsimp only; omega) (.inr ⟨⟨_, rfl⟩, by dsimp only; omega, by dsimp only; omega⟩), by omega⟩
          · have close : ∀ (kd j : Nat), kd ≠ 0 → kd ≠ 2 → ¬ named kd → i ≤ j → closeM l f kd i (j, b) = some r → Post l .stmt i r.1 r.2.1 := fun kd j k0 k2 kn hj hc => by
              unfold closeM at hc
              obtain ⟨v, hv, e⟩ := Option.bind_eq_some_iff.1 hc
              injection e with e; subst e
              obtain ⟨g1, q1, _⟩ := want_g hr
              obtain ⟨a1, p1, _⟩ := ih _ _ _ _ hv g1 trivial
              dsimp only at *
              exact ⟨Apt.one k0 k2 a1 (by dsimp only; omega) (by dsimp only; omega) (Nat.le_refl _) (Nat.le_refl _) (by dsimp only; omega) (.inl ⟨rfl, kn⟩), by omega⟩
            by_cases hpr : isM l i kPrint = true
            · exact close 11 (i + 1) (by omega) (by omega) (by unfold named; omega) (by omega) (st_print h rfl hpr)
            · by_cases hre : isM l i kReturn = true
              · exact close 12 (i + 1) (by omega) (by omega) (by unfold named; omega) (by omega) (st_return h rfl hre)
              · by_cases hse : kindAt l i = 1 ∧ isM l (i + 1) sEq = true
                · obtain ⟨v, hv, e⟩ := st_word h rfl hb hse.1 hse.2
                  subst e
                  obtain ⟨g1, q1, _⟩ := want_g hr
                  obtain ⟨a1, p1, _⟩ := ih _ _ _ _ hv g1 trivial
                  dsimp only at *
                  exact ⟨Apt.one (by dsimp only; omega) (by dsimp only; omega) a1 (by dsimp only; omega) (by dsimp only; omega) (Nat.le_refl _) (Nat.le_refl _) (by dsimp only; omega) (.inr ⟨⟨_, rfl⟩, Nat.le_refl _, by dsimp only; omega⟩), by omega⟩
                · exact close 13 i (by omega) (by omega) (by unfold named; omega) (by omega) (st_do h rfl (by simpa using hlet) (by simpa using hif) (by simpa using hwh) (by simpa using hpr) (by simpa using hre) hse)
    | expr =>
      rw [exM] at h
      obtain ⟨a, h1, h⟩ := Option.bind_eq_some_iff.1 h
      split at h
      · injection h with h; subst h
        have hh := ih _ _ _ _ h1 hr trivial
        exact hh
      · obtain ⟨c, h2, h⟩ := Option.bind_eq_some_iff.1 h
        injection h with h; subst h
        obtain ⟨a2, q2, _⟩ := ih _ _ _ _ h2 hr trivial
        obtain ⟨a1, q1, p1⟩ := ih _ _ _ _ h1 (exM_was h2 hr) trivial
        dsimp only at *
        rw [p1]
        exact ⟨Apt.one (by dsimp only; split <;> omega) (by dsimp only; split <;> omega) (Apt.app a1 (a2.mono (by omega) (Nat.le_refl _)) (by omega) (by omega)) (Nat.le_refl _) (Nat.le_refl _) (Nat.le_refl _) (Nat.le_refl _) (by dsimp only; omega) (.inl ⟨rfl, by dsimp only [named]; first | omega | (split <;> omega)⟩), by omega, rfl⟩
    | sum =>
      rw [exM] at h
      obtain ⟨a, h1, h⟩ := Option.bind_eq_some_iff.1 h
      obtain ⟨a1, q1, p1⟩ := ih _ _ _ _ h1 (exM_was h hr) trivial
      obtain ⟨a2, q2, p2⟩ := ih _ _ _ _ h hr (show Apt l a.1 a.1.from_ a.2.1 ∧ a.1.from_ ≤ a.2.1 by rw [p1]; exact ⟨a1, by omega⟩)
      rw [q2, p1] at a2
      exact ⟨a2, by omega, by rw [q2, p1]⟩
    | term =>
      rw [exM] at h
      obtain ⟨a, h1, h⟩ := Option.bind_eq_some_iff.1 h
      obtain ⟨a1, q1, p1⟩ := ih _ _ _ _ h1 (exM_was h hr) trivial
      obtain ⟨a2, q2, p2⟩ := ih _ _ _ _ h hr (show Apt l a.1 a.1.from_ a.2.1 ∧ a.1.from_ ≤ a.2.1 by rw [p1]; exact ⟨a1, by omega⟩)
      rw [q2, p1] at a2
      exact ⟨a2, by omega, by rw [q2, p1]⟩
    | post =>
      rw [exM] at h
      obtain ⟨a, h1, h⟩ := Option.bind_eq_some_iff.1 h
      obtain ⟨a1, q1, p1⟩ := ih _ _ _ _ h1 (exM_was h hr) trivial
      obtain ⟨a2, q2, p2⟩ := ih _ _ _ _ h hr (show Apt l a.1 a.1.from_ a.2.1 ∧ a.1.from_ ≤ a.2.1 by rw [p1]; exact ⟨a1, by omega⟩)
      rw [q2, p1] at a2
      exact ⟨a2, by omega, by rw [q2, p1]⟩
    | sumL a =>
      obtain ⟨pa, pf⟩ := hpre
      rw [exM] at h
      split at h
      · obtain ⟨c, h1, h⟩ := Option.bind_eq_some_iff.1 h
        obtain ⟨a1, q1, _⟩ := ih _ _ _ _ h1 (exM_was h hr) trivial
        obtain ⟨a2, q2, p2⟩ := ih _ _ _ _ h hr ⟨Apt.one (by dsimp only; split <;> omega) (by dsimp only; split <;> omega) (Apt.app pa (a1.mono (by omega) (Nat.le_refl _)) pf (by omega)) (Nat.le_refl _) (Nat.le_refl _) (Nat.le_refl _) (Nat.le_refl _) (by dsimp only; omega) (.inl ⟨rfl, by dsimp only [named]; first | omega | (split <;> omega)⟩), by show a.from_ ≤ _; omega⟩
        exact ⟨a2, q2, by omega⟩
      · injection h with h; subst h; exact ⟨pa, rfl, Nat.le_refl _⟩
    | termL a =>
      obtain ⟨pa, pf⟩ := hpre
      rw [exM] at h
      split at h
      · obtain ⟨c, h1, h⟩ := Option.bind_eq_some_iff.1 h
        obtain ⟨a1, q1, _⟩ := ih _ _ _ _ h1 (exM_was h hr) trivial
        obtain ⟨a2, q2, p2⟩ := ih _ _ _ _ h hr ⟨Apt.one (by dsimp only; omega) (by dsimp only; omega) (Apt.app pa (a1.mono (by omega) (Nat.le_refl _)) pf (by omega)) (Nat.le_refl _) (Nat.le_refl _) (Nat.le_refl _) (Nat.le_refl _) (by dsimp only; omega) (.inl ⟨rfl, by dsimp only [named]; first | omega | (split <;> omega)⟩), by show a.from_ ≤ _; omega⟩
        exact ⟨a2, q2, by omega⟩
      · injection h with h; subst h; exact ⟨pa, rfl, Nat.le_refl _⟩
    | postL a =>
      obtain ⟨pa, pf⟩ := hpre
      rw [exM] at h
      split at h
      · split at h
        · have g1 := exM_was h hr
          obtain ⟨_, w0, w1, _⟩ := word_g g1
          dsimp only at h
          rw [w0] at h
          obtain ⟨a2, q2, p2⟩ := ih _ _ _ _ h hr ⟨Apt.one (by dsimp only; omega) (by dsimp only; omega) pa (Nat.le_refl _) (by dsimp only; omega) (Nat.le_refl _) (Nat.le_refl _) (by dsimp only; omega) (.inr ⟨⟨_, rfl⟩, by dsimp only; omega, by dsimp only; omega⟩), by show a.from_ ≤ _; omega⟩
          exact ⟨a2, q2, by omega⟩
        · obtain ⟨k, h1, h⟩ := Option.bind_eq_some_iff.1 h
          have g2 := exM_was h hr
          obtain ⟨g1, q3, _⟩ := want_g g2
          obtain ⟨a1, q1⟩ := ih _ _ _ _ h1 g1 trivial
          obtain ⟨a2, q2, p2⟩ := ih _ _ _ _ h hr ⟨Apt.one (by dsimp only; omega) (by dsimp only; omega) (Apt.app pa (a1.mono (by omega) (Nat.le_refl _)) pf (by omega)) (Nat.le_refl _) (by dsimp only; omega) (Nat.le_refl _) (Nat.le_refl _) (by dsimp only; omega) (.inl ⟨rfl, by dsimp only [named]; first | omega | (split <;> omega)⟩), by show a.from_ ≤ _; omega⟩
          exact ⟨a2, q2, by omega⟩
      · injection h with h; subst h; exact ⟨pa, rfl, Nat.le_refl _⟩
    | args first =>
      rw [exM] at h
      split at h
      · obtain ⟨t, h1, h⟩ := Option.bind_eq_some_iff.1 h
        split at h
        · injection h with h; subst h
          obtain ⟨a1, q1, _⟩ := ih _ _ _ _ h1 hr trivial
          exact ⟨a1, by dsimp only; omega⟩
        · obtain ⟨y, h2, h⟩ := Option.map_eq_some_iff.1 h
          subst h
          obtain ⟨a2, q2⟩ := ih _ _ _ _ h2 hr trivial
          obtain ⟨g1, q3, _⟩ := want_g (exM_was h2 hr)
          obtain ⟨a1, q1, _⟩ := ih _ _ _ _ h1 g1 trivial
          exact ⟨Apt.app a1 (a2.mono (by omega) (Nat.le_refl _)) (by omega) (by dsimp only; omega), by dsimp only; omega⟩
      · injection h with h; subst h; exact ⟨trivial, Nat.le_refl _⟩
    | atom =>
      have leaf : ∀ kd : Nat, kd ≠ 0 → kd ≠ 2 → r = (.one ⟨kd, i, i + 1, textAt l i, i⟩ .nil, i + 1, b) → Post l .atom i r.1 r.2.1 := fun kd k0 k2 e => by
        subst e
        exact ⟨Apt.one k0 k2 (show Apt l .nil i i from trivial) (Nat.le_refl _) (Nat.le_succ _) (Nat.le_refl _) (Nat.le_refl _) (Nat.le_succ _) (.inr ⟨⟨_, rfl⟩, Nat.le_refl _, Nat.lt_succ_self _⟩), Nat.lt_succ_self _, rfl⟩
      rw [exM, if_neg (by omega)] at h
      split at h
      · injection h with h; exact leaf 21 (by omega) (by omega) h.symm
      · split at h
        · injection h with h; exact leaf 22 (by omega) (by omega) h.symm
        · split at h
          · injection h with h; exact leaf 23 (by omega) (by omega) h.symm
          · split at h
            · injection h with h; subst h
              exact ⟨Apt.one (by dsimp only; omega) (by dsimp only; omega) (show Apt l .nil i i from trivial) (Nat.le_refl _) (Nat.le_succ _) (Nat.le_refl _) (Nat.le_refl _) (Nat.le_succ _) (.inl ⟨rfl, by dsimp only [named]; first | omega | (split <;> omega)⟩), Nat.lt_succ_self _, rfl⟩
            · split at h
              · obtain ⟨x, h1, h⟩ := Option.bind_eq_some_iff.1 h
                injection h with h; subst h
                obtain ⟨g1, q1, _⟩ := want_g hr
                obtain ⟨a1, p1, _⟩ := ih _ _ _ _ h1 g1 trivial
                dsimp only at *
                exact ⟨Apt.one (by dsimp only; omega) (by dsimp only; omega) a1 (by dsimp only; omega) (by dsimp only; omega) (Nat.le_refl _) (Nat.le_refl _) (by dsimp only; omega) (.inl ⟨rfl, by dsimp only [named]; first | omega | (split <;> omega)⟩), by omega, rfl⟩
              · split at h
                · obtain ⟨x, h1, h⟩ := Option.bind_eq_some_iff.1 h
                  injection h with h; subst h
                  obtain ⟨g1, q1, _⟩ := want_g hr
                  obtain ⟨a1, p1⟩ := ih _ _ _ _ h1 g1 trivial
                  dsimp only at *
                  exact ⟨Apt.one (by dsimp only; omega) (by dsimp only; omega) a1 (by dsimp only; omega) (by dsimp only; omega) (Nat.le_refl _) (Nat.le_refl _) (by dsimp only; omega) (.inl ⟨rfl, by dsimp only [named]; first | omega | (split <;> omega)⟩), by omega, rfl⟩
                · obtain ⟨x, h1, h⟩ := Option.bind_eq_some_iff.1 h
                  injection h with h; subst h
                  obtain ⟨a1, p1⟩ := ih _ _ _ _ h1 hr trivial
                  obtain ⟨_, q1, _⟩ := want_g (exM_was h1 hr)
                  dsimp only at *
                  exact ⟨Apt.one (by dsimp only; omega) (by dsimp only; omega) a1 (by dsimp only; omega) (Nat.le_refl _) (Nat.le_refl _) (Nat.le_refl _) (by dsimp only; omega) (.inl ⟨rfl, by dsimp only [named]; first | omega | (split <;> omega)⟩), by omega, rfl⟩
    | entries first =>
      rw [exM] at h
      split at h
      · obtain ⟨t, h1, h⟩ := Option.bind_eq_some_iff.1 h
        have key : t.2.2 < 0 → Apt l (.one { (wordM l b ⟨27, i, 0, e0, 0⟩ i).1 with til := t.2.1 } t.1) i t.2.1 ∧ i ≤ t.2.1 := fun hg => by
          obtain ⟨a1, a2, _⟩ := ih _ _ _ _ h1 hg trivial
          obtain ⟨g1, q2, _⟩ := want_g (exM_was h1 hg)
          obtain ⟨_, q0, q1, _⟩ := word_g g1
          rw [q0]
          exact ⟨Apt.one (by dsimp only; omega) (by dsimp only; omega) a1 (by dsimp only; omega) (Nat.le_refl _) (Nat.le_refl _) (Nat.le_refl _) (by dsimp only; omega) (.inr ⟨⟨_, rfl⟩, Nat.le_refl _, by dsimp only; omega⟩), by omega⟩
        split at h
        · injection h with h; subst h; exact key hr
        · obtain ⟨y, h2, h⟩ := Option.map_eq_some_iff.1 h
          subst h
          obtain ⟨a2, q2⟩ := ih _ _ _ _ h2 hr trivial
          obtain ⟨g1, q3, _⟩ := want_g (exM_was h2 hr)
          obtain ⟨a1, q1⟩ := key g1
          exact ⟨Apt.app a1 (a2.mono (by omega) (Nat.le_refl _)) q1 (by dsimp only; omega), by dsimp only; omega⟩
      · injection h with h; subst h; exact ⟨trivial, Nat.le_refl _⟩
theorem use_apt {b : Int} {i : Nat} (hr : (useM l b i).2.2 < 0) : Apt l (useM l b i).1 i (useM l b i).2.1 ∧ i ≤ (useM l b i).2.1 := by
  unfold useM at hr ⊢
  dsimp only at *
  obtain ⟨g3, q3, _⟩ := want_g hr
  obtain ⟨g2, w2, q2, _⟩ := word_g g3
  obtain ⟨g1, q1, _⟩ := want_g g2
  obtain ⟨_, w0, q0, _⟩ := word_g g1
  rw [w2, w0]
  refine ⟨⟨?_, fun h => (by cases h), fun _ => ⟨rfl, rfl, _, rfl⟩, fun _ h => absurd rfl h, trivial⟩, by omega⟩
  unfold nodeOK
  dsimp only
  rw [if_neg (by omega)]
  exact ⟨Nat.le_refl _, Nat.le_refl _, by omega, .inr ⟨⟨_, rfl⟩, by omega, by omega⟩⟩
theorem def_apt {f : Nat} {b : Int} {i : Nat} {r : Fo × Nat × Int} (h : defM l f b i = some r) (hr : r.2.2 < 0) : Apt l r.1 i r.2.1 ∧ i ≤ r.2.1 := by
  unfold defM at h
  obtain ⟨k, h1, h⟩ := Option.bind_eq_some_iff.1 h
  injection h with h; subst h
  obtain ⟨a1, p1⟩ := ex_apt _ _ _ _ _ h1 hr trivial
  obtain ⟨g1, w0, q0, _⟩ := word_g (exM_was h1 hr)
  obtain ⟨_, q1, _⟩ := want_g g1
  dsimp only at *
  rw [w0]
  exact ⟨Apt.one (by dsimp only; omega) (by dsimp only; omega) a1 (by dsimp only; omega) (Nat.le_refl _) (Nat.le_refl _) (Nat.le_refl _) (by dsimp only; omega) (.inr ⟨⟨_, rfl⟩, by dsimp only; omega, by dsimp only; omega⟩), by omega⟩
theorem items_apt : ∀ (f : Nat) (b : Int) (i : Nat) (r : Fo × Nat × Int), itemsM l f b i = some r → r.2.2 < 0 → Apt l r.1 i r.2.1 ∧ i ≤ r.2.1 ∧ kindAt l r.2.1 = 0 := by
  intro f
  induction f with
  | zero => intro b i r h; rw [itemsM] at h; cases h
  | succ f ih =>
    intro b i r h hr
    have hb : b < 0 := by
      by_cases hh : 0 ≤ b
      · have := items_bad hh h; omega
      · omega
    have was : ∀ {g : Nat} {c : Int} {j : Nat} {y : Fo × Nat × Int}, itemsM l g c j = some y → y.2.2 < 0 → c < 0 := fun hy hg => by
      rename_i c _ _
      by_cases hh : 0 ≤ c
      · have := items_bad hh hy; omega
      · omega
    rw [itemsM] at h
    split at h
    · split at h
      · obtain ⟨x, h1, h⟩ := Option.map_eq_some_iff.1 h
        subst h
        obtain ⟨a2, q2, z2⟩ := ih _ _ _ h1 hr
        obtain ⟨a1, q1⟩ := use_apt (was h1 hr)
        exact ⟨Apt.app a1 a2 q1 q2, by dsimp only; omega, z2⟩
      · obtain ⟨t, h0, h⟩ := Option.bind_eq_some_iff.1 h
        obtain ⟨x, h1, h⟩ := Option.map_eq_some_iff.1 h
        subst h
        obtain ⟨a2, q2, z2⟩ := ih _ _ _ h1 hr
        obtain ⟨a1, q1⟩ := def_apt h0 (was h1 hr)
        exact ⟨Apt.app a1 a2 q1 q2, by dsimp only; omega, z2⟩
    · rename_i hc
      injection h with h; subst h
      refine ⟨trivial, Nat.le_refl _, ?_⟩
      dsimp only
      by_cases hk : kindAt l i = 0
      · exact hk
      · exact absurd ⟨hb, hk⟩ hc
def Its : Fo → Prop
  | .nil => True
  | .cons h _ r => (h.kind = 2 ∨ h.kind = 3) ∧ Its r
theorem Its.app : ∀ {a b : Fo}, Its a → Its b → Its (a.app b)
  | .nil, _, _, hb => hb
  | .cons _ _ _, _, ha, hb => ⟨ha.1, Its.app ha.2 hb⟩
theorem word_kind (b : Int) (h : Hd) (i : Nat) : (wordM l b h i).1.kind = h.kind := by
  unfold wordM
  split
  · rfl
  · split <;> rfl
theorem items_its : ∀ (f : Nat) (b : Int) (i : Nat) (r : Fo × Nat × Int), itemsM l f b i = some r → Its r.1 := by
  intro f
  induction f with
  | zero => intro b i r h; rw [itemsM] at h; cases h
  | succ f ih =>
    intro b i r h
    rw [itemsM] at h
    split at h
    · split at h
      · obtain ⟨x, h1, h⟩ := Option.map_eq_some_iff.1 h
        subst h
        exact Its.app ⟨.inl (word_kind _ _ _), trivial⟩ (ih _ _ _ h1)
      · obtain ⟨t, h0, h⟩ := Option.bind_eq_some_iff.1 h
        obtain ⟨x, h1, h⟩ := Option.map_eq_some_iff.1 h
        subst h
        unfold defM at h0
        obtain ⟨k, _, h0⟩ := Option.bind_eq_some_iff.1 h0
        injection h0 with h0
        subst h0
        exact Its.app ⟨.inr (word_kind _ _ _), trivial⟩ (ih _ _ _ h1)
    · injection h with h
      subst h
      exact trivial
end Ps
end Go.Proofs.Ytnefnnoleeeedaa
namespace Go.Proofs.Ytnefnnoleeeedaa
namespace Ps
open Pg
variable {l : List Tok}
def fc : Fo → Nat
  | .nil => 0
  | .cons _ k r => fc k + fc r + 1
theorem fc_nil : fc .nil = 0 := rfl
theorem fc_one (h : Hd) (k : Fo) : fc (.one h k) = fc k + 1 := rfl
theorem fc_zero : fc .zero = 1 := rfl
theorem fc_app : ∀ a b : Fo, fc (a.app b) = fc a + fc b
  | .nil, b => by rw [Fo.app, fc]; omega
  | .cons h k r, b => by rw [Fo.app, fc, fc, fc_app r]; omega
def cT : TT → Nat
  | .kind => 3
  | _ => 0
def cX : XT → Nat
  | .lambda => 6
  | .block => 7
  | .expr | .sum | .term | .post | .atom => 3
  | _ => 0
def cA : XT → Nat
  | .sumL a | .termL a | .postL a => fc a
  | _ => 0
theorem ty_cnt : ∀ (f : Nat) (t : TT) (b : Int) (i : Nat) (r : Fo × Nat × Int), tyM l f t b i = some r → r.2.2 < 0 → fc r.1 + 4 * i + cT t ≤ 4 * r.2.1 := by
  intro f
  induction f with
  | zero => intro t b i r h; rw [tyM] at h; cases h
  | succ f ih =>
    intro t b i r h hr
    have hb := ty_was h hr
    cases t with
    | kind =>
      rw [tyM, if_neg (by omega)] at h
      split at h
      · injection h with h; subst h; (try simp only [fc_one, fc_nil, cT]) <;> (try dsimp only at *) <;> omega
      · split at h
        · injection h with h; subst h; (try simp only [fc_one, fc_nil, cT]) <;> (try dsimp only at *) <;> omega
        · split at h
          · injection h with h; subst h; (try simp only [fc_one, fc_nil, cT]) <;> (try dsimp only at *) <;> omega
          · split at h
            · obtain ⟨x, hx, h⟩ := Option.bind_eq_some_iff.1 h
              injection h with h; subst h
              obtain ⟨g1, g2, _⟩ := want_g hr
              have a1 := ih _ _ _ _ hx g1
              try simp only [cT] at a1
              dsimp only at *
              (try simp only [fc_one, cT]) <;> (try dsimp only at *) <;> omega
            · obtain ⟨x, hx, h⟩ := Option.bind_eq_some_iff.1 h
              obtain ⟨t, ht, h⟩ := Option.bind_eq_some_iff.1 h
              injection h with h; subst h
              have b1 := ih _ _ _ _ ht hr
              try simp only [cT] at b1
              have g4 := ty_was ht hr
              obtain ⟨g3, q4, _⟩ := want_g g4
              obtain ⟨g2, q3, _⟩ := want_g g3
              have a1 := ih _ _ _ _ hx g2
              try simp only [cT] at a1
              have g1 := ty_was hx g2
              obtain ⟨g0, q2, _⟩ := want_g g1
              obtain ⟨_, q1, _⟩ := want_g g0
              dsimp only at *
              (try simp only [fc_one, fc_app, cT]) <;> (try dsimp only at *) <;> omega
    | recL first =>
      rw [tyM] at h
      split at h
      · obtain ⟨t, ht, h⟩ := Option.bind_eq_some_iff.1 h
        have key : t.2.2 < 0 → fc (Fo.one { (wordM l b ⟨33, i, 0, e0, 0⟩ i).1 with til := t.2.1 } t.1) + 4 * i ≤ 4 * t.2.1 := fun hg => by
          have a1 := ih _ _ _ _ ht hg
          try simp only [cT] at a1
          have g2 := ty_was ht hg
          obtain ⟨g1, q2, _⟩ := want_g g2
          obtain ⟨_, q0, q1, _⟩ := word_g g1
          rw [q0]
          (try simp only [fc_one]) <;> (try dsimp only at *) <;> omega
        split at h
        · injection h with h; subst h
          exact key hr
        · obtain ⟨x, hx, h⟩ := Option.map_eq_some_iff.1 h
          subst h
          have c1 := ih _ _ _ _ hx hr
          try simp only [cT] at c1
          have g4 := ty_was hx hr
          obtain ⟨g3, q3, _⟩ := want_g g4
          have d1 := key g3
          try simp only [fc_one] at d1
          (try simp only [fc_one, fc_app, cT]) <;> (try dsimp only at *) <;> omega
      · injection h with h; subst h; (try simp only [fc_nil, cT]) <;> (try dsimp only at *) <;> omega
    | fnL first =>
      rw [tyM] at h
      split at h
      · obtain ⟨t, ht, h⟩ := Option.bind_eq_some_iff.1 h
        split at h
        · injection h with h; subst h
          have a1 := ih _ _ _ _ ht hr
          try simp only [cT] at a1
          (try simp only [cT]) <;> (try dsimp only at *) <;> omega
        · obtain ⟨x, hx, h⟩ := Option.map_eq_some_iff.1 h
          subst h
          have c1 := ih _ _ _ _ hx hr
          try simp only [cT] at c1
          have g4 := ty_was hx hr
          obtain ⟨g3, q3, _⟩ := want_g g4
          have d1 := ih _ _ _ _ ht g3
          try simp only [cT] at d1
          (try simp only [fc_app, cT]) <;> (try dsimp only at *) <;> omega
      · injection h with h; subst h; (try simp only [fc_nil, cT]) <;> (try dsimp only at *) <;> omega
theorem typed_cnt {f : Nat} {b : Int} {i : Nat} {r : Fo × Nat × Int} (h : typedM l f b i = some r) (hr : r.2.2 < 0) : fc r.1 + 4 * i ≤ 4 * r.2.1 + 1 := by
  unfold typedM at h
  split at h
  · injection h with h; subst h; (try simp only [fc_zero]) <;> (try dsimp only at *) <;> omega
  · have a1 := ty_cnt _ _ _ _ _ h hr
    try simp only [cT] at a1
    (try simp only [fc_one, fc_app, fc_zero, fc_nil, cT, cX, cA]) <;> (try dsimp only at *) <;> omega
theorem par_cnt : ∀ (f : Nat) (first : Bool) (b : Int) (i : Nat) (r : Fo × Nat × Int), parL l f first b i = some r → r.2.2 < 0 → fc r.1 + 4 * i ≤ 4 * r.2.1 := by
  intro f
  induction f with
  | zero => intro first b i r h; rw [parL] at h; cases h
  | succ f ih =>
    intro first b i r h hr
    rw [parL] at h
    split at h
    · obtain ⟨t, ht, h⟩ := Option.bind_eq_some_iff.1 h
      have key : t.2.2 < 0 → fc (Fo.one { (wordM l b ⟨5, i, 0, e0, 0⟩ i).1 with til := t.2.1 } t.1) + 4 * i ≤ 4 * t.2.1 := fun hg => by
        have a1 := typed_cnt ht hg
        try simp only [fc_one, fc_app, fc_zero, fc_nil, cT, cX, cA] at a1
        have g1 := typed_was ht hg
        obtain ⟨_, q0, q1, _⟩ := word_g g1
        rw [q0]
        (try simp only [fc_one]) <;> (try dsimp only at *) <;> omega
      split at h
      · injection h with h; subst h; exact key hr
      · obtain ⟨x, hx, h⟩ := Option.map_eq_some_iff.1 h
        subst h
        have c1 := ih _ _ _ _ hx hr
        try simp only [fc_one, fc_app, fc_zero, fc_nil, cT, cX, cA] at c1
        have g4 := parL_was hx hr
        obtain ⟨g3, q3, _⟩ := want_g g4
        have d1 := key g3
        try simp only [fc_one] at d1
        (try simp only [fc_one, fc_app]) <;> (try dsimp only at *) <;> omega
    · injection h with h; subst h; (try simp only [fc_nil]) <;> (try dsimp only at *) <;> omega
theorem params_cnt {f : Nat} {b : Int} {i : Nat} {r : Fo × Nat × Int} (h : paramsM l f b i = some r) (hr : r.2.2 < 0) : fc r.1 + 4 * i + 7 ≤ 4 * r.2.1 := by
  unfold paramsM at h
  obtain ⟨x, hx, h⟩ := Option.bind_eq_some_iff.1 h
  injection h with h; subst h
  obtain ⟨g2, q2, _⟩ := want_g hr
  have a1 := par_cnt _ _ _ _ _ hx g2
  try simp only [fc_one, fc_app, fc_zero, fc_nil, cT, cX, cA] at a1
  have g1 := parL_was hx g2
  obtain ⟨_, q1, _⟩ := want_g g1
  dsimp only at *
  (try simp only [fc_one]) <;> (try dsimp only at *) <;> omega
theorem ex_cnt : ∀ (f : Nat) (t : XT) (b : Int) (i : Nat) (r : Fo × Nat × Int), exM l f t b i = some r → r.2.2 < 0 → fc r.1 + 4 * i + cX t ≤ 4 * r.2.1 + cA t := by
  intro f
  induction f with
  | zero => intro t b i r h; rw [exM] at h; cases h
  | succ f ih =>
    intro t b i r h hr
    have hb := exM_was h hr
    cases t with
    | lambda =>
      rw [exM] at h
      obtain ⟨p, h1, h⟩ := Option.bind_eq_some_iff.1 h
      obtain ⟨t, h2, h⟩ := Option.bind_eq_some_iff.1 h
      obtain ⟨k, h3, h⟩ := Option.bind_eq_some_iff.1 h
      injection h with h; subst h
      have a3 := ih _ _ _ _ h3 hr
      try simp only [cX, cA] at a3
      have g2 := exM_was h3 hr
      have a2 := typed_cnt h2 g2
      try simp only [fc_one, fc_app, fc_zero, fc_nil, cT, cX, cA] at a2
      have g1 := typed_was h2 g2
      have a1 := params_cnt h1 g1
      try simp only [fc_one, fc_app, fc_zero, fc_nil, cT, cX, cA] at a1
      (try simp only [fc_app, cX, cA]) <;> (try dsimp only at *) <;> omega
    | block =>
      rw [exM] at h
      obtain ⟨x, h1, h⟩ := Option.bind_eq_some_iff.1 h
      injection h with h; subst h
      obtain ⟨g2, q2, _⟩ := want_g hr
      have a1 := ih _ _ _ _ h1 g2
      try simp only [cX, cA] at a1
      have g1 := exM_was h1 g2
      obtain ⟨_, q0, _⟩ := want_g g1
      dsimp only at *
      (try simp only [fc_one, cX, cA]) <;> (try dsimp only at *) <;> omega
    | stmts =>
      rw [exM] at h
      split at h
      · obtain ⟨x, h1, h⟩ := Option.bind_eq_some_iff.1 h
        obtain ⟨y, h2, h⟩ := Option.map_eq_some_iff.1 h
        subst h
        have a2 := ih _ _ _ _ h2 hr
        try simp only [cX, cA] at a2
        have a1 := ih _ _ _ _ h1 (exM_was h2 hr)
        try simp only [cX, cA] at a1
        (try simp only [fc_app, cX, cA]) <;> (try dsimp only at *) <;> omega
      · injection h with h; subst h; (try simp only [fc_nil, cX, cA]) <;> (try dsimp only at *) <;> omega
    | stmt =>
      by_cases hif : isM l i kIf = true
      · obtain ⟨c, k, o, hc, hk, ho, e⟩ := st_if h rfl hif
        subst e
        have gk : k.2.2 < 0 := by
          by_cases hh : 0 ≤ k.2.2
          · have := other_bad hh ho; dsimp only at hr; omega
          · omega
        have ao : fc o.1 + 4 * k.2.1 ≤ 4 * o.2.1 + 1 := by
          unfold otherM at ho
          split at ho
          · have a3 := ih _ _ _ _ ho hr
            try simp only [cX, cA] at a3
            (try simp only [fc_one, fc_app, fc_zero, fc_nil, cT, cX, cA]) <;> (try dsimp only at *) <;> omega
          · injection ho with ho; rw [← ho]; (try simp only [fc_zero]) <;> (try dsimp only at *) <;> omega
        have a2 := ih _ _ _ _ hk gk
        try simp only [cX, cA] at a2
        have a1 := ih _ _ _ _ hc (exM_was hk gk)
        try simp only [cX, cA] at a1
        (try simp only [fc_one, fc_app, cX, cA]) <;> (try dsimp only at *) <;> omega
      · by_cases hwh : isM l i kWhile = true
        · obtain ⟨c, k, hc, hk, e⟩ := st_while h rfl hwh
          subst e
          have a2 := ih _ _ _ _ hk hr
          try simp only [cX, cA] at a2
          have a1 := ih _ _ _ _ hc (exM_was hk hr)
          try simp only [cX, cA] at a1
          (try simp only [fc_one, fc_app, cX, cA]) <;> (try dsimp only at *) <;> omega
        · by_cases hlet : isM l i kLet = true
          · obtain ⟨t, v, ht, hv, e⟩ := st_let h rfl hlet
            subst e
            obtain ⟨g3, q3, _⟩ := want_g hr
            have a2 := ih _ _ _ _ hv g3
            try simp only [cX, cA] at a2
            have g2 := exM_was hv g3
            obtain ⟨g1, q1, _⟩ := want_g g2
            have a1 := typed_cnt ht g1
            try simp only [fc_one, fc_app, fc_zero, fc_nil, cT, cX, cA] at a1
            have g0 := typed_was ht g1
            have e1 : (wordM l b ⟨7, i, 0, e0, 0⟩ (i + 1)).2 = (wordM l b ⟨0, 0, 0, e0, 0⟩ (i + 1)).2 := wordM_snd _ _ _ _
            rw [← e1] at g0 a1
            obtain ⟨_, w0, w1, _⟩ := word_g g0
            rw [w0]
            dsimp only at *
            (try simp only [fc_one, fc_app, cX, cA]) <;> (try dsimp only at *) <;> omega
          · have close : ∀ (kd j : Nat), kd ≠ 0 → kd ≠ 2 → ¬ named kd → i ≤ j → closeM l f kd i (j, b) = some r → fc r.1 + 4 * i + cX .stmt ≤ 4 * r.2.1 + cA .stmt := fun kd j k0 k2 kn hj hc => by
              unfold closeM at hc
              obtain ⟨v, hv, e⟩ := Option.bind_eq_some_iff.1 hc
              injection e with e; subst e
              obtain ⟨g1, q1, _⟩ := want_g hr
              have a1 := ih _ _ _ _ hv g1
              try simp only [cX, cA] at a1
              dsimp only at *
              (try simp only [fc_one, cX, cA]) <;> (try dsimp only at *) <;> omega
            by_cases hpr : isM l i kPrint = true
            · exact close 11 (i + 1) (by omega) (by omega) (by unfold named; omega) (by omega) (st_print h rfl hpr)
            · by_cases hre : isM l i kReturn = true
              · exact close 12 (i + 1) (by omega) (by omega) (by unfold named; omega) (by omega) (st_return h rfl hre)
              · by_cases hse : kindAt l i = 1 ∧ isM l (i + 1) sEq = true
                · obtain ⟨v, hv, e⟩ := st_word h rfl hb hse.1 hse.2
                  subst e
                  obtain ⟨g1, q1, _⟩ := want_g hr
                  have a1 := ih _ _ _ _ hv g1
                  try simp only [cX, cA] at a1
                  dsimp only at *
                  (try simp only [fc_one, cX, cA]) <;> (try dsimp only at *) <;> omega
                · exact close 13 i (by omega) (by omega) (by unfold named; omega) (by omega) (st_do h rfl (by simpa using hlet) (by simpa using hif) (by simpa using hwh) (by simpa using hpr) (by simpa using hre) hse)
    | expr =>
      rw [exM] at h
      obtain ⟨a, h1, h⟩ := Option.bind_eq_some_iff.1 h
      split at h
      · injection h with h; subst h
        have hh := ih _ _ _ _ h1 hr
        exact hh
      · obtain ⟨c, h2, h⟩ := Option.bind_eq_some_iff.1 h
        injection h with h; subst h
        have a2 := ih _ _ _ _ h2 hr
        try simp only [cX, cA] at a2
        have a1 := ih _ _ _ _ h1 (exM_was h2 hr)
        try simp only [cX, cA] at a1
        dsimp only at *
        (try simp only [fc_one, fc_app, cX, cA]) <;> (try dsimp only at *) <;> omega
    | sum =>
      rw [exM] at h
      obtain ⟨a, h1, h⟩ := Option.bind_eq_some_iff.1 h
      have a1 := ih _ _ _ _ h1 (exM_was h hr)
      try simp only [cX, cA] at a1
      have a2 := ih _ _ _ _ h hr
      try simp only [cX, cA] at a2
      (try simp only [cX, cA]) <;> (try dsimp only at *) <;> omega
    | term =>
      rw [exM] at h
      obtain ⟨a, h1, h⟩ := Option.bind_eq_some_iff.1 h
      have a1 := ih _ _ _ _ h1 (exM_was h hr)
      try simp only [cX, cA] at a1
      have a2 := ih _ _ _ _ h hr
      try simp only [cX, cA] at a2
      (try simp only [cX, cA]) <;> (try dsimp only at *) <;> omega
    | post =>
      rw [exM] at h
      obtain ⟨a, h1, h⟩ := Option.bind_eq_some_iff.1 h
      have a1 := ih _ _ _ _ h1 (exM_was h hr)
      try simp only [cX, cA] at a1
      have a2 := ih _ _ _ _ h hr
      try simp only [cX, cA] at a2
      (try simp only [cX, cA]) <;> (try dsimp only at *) <;> omega
    | sumL a =>
      rw [exM] at h
      split at h
      · obtain ⟨c, h1, h⟩ := Option.bind_eq_some_iff.1 h
        have a1 := ih _ _ _ _ h1 (exM_was h hr)
        try simp only [cX, cA] at a1
        have a2 := ih _ _ _ _ h hr
        try simp only [fc_one, fc_app, cX, cA] at a2
        (try simp only [cX, cA]) <;> (try dsimp only at *) <;> omega
      · injection h with h; subst h; (try simp only [cX, cA]) <;> (try dsimp only at *) <;> omega
    | termL a =>
      rw [exM] at h
      split at h
      · obtain ⟨c, h1, h⟩ := Option.bind_eq_some_iff.1 h
        have a1 := ih _ _ _ _ h1 (exM_was h hr)
        try simp only [cX, cA] at a1
        have a2 := ih _ _ _ _ h hr
        try simp only [fc_one, fc_app, cX, cA] at a2
        (try simp only [cX, cA]) <;> (try dsimp only at *) <;> omega
      · injection h with h; subst h; (try simp only [cX, cA]) <;> (try dsimp only at *) <;> omega
    | postL a =>
      rw [exM] at h
      split at h
      · split at h
        · have g1 := exM_was h hr
          obtain ⟨_, w0, w1, _⟩ := word_g g1
          dsimp only at h
          rw [w0] at h
          have a2 := ih _ _ _ _ h hr
          try simp only [fc_one, cX, cA] at a2
          (try simp only [cX, cA]) <;> (try dsimp only at *) <;> omega
        · obtain ⟨k, h1, h⟩ := Option.bind_eq_some_iff.1 h
          have g2 := exM_was h hr
          obtain ⟨g1, q3, _⟩ := want_g g2
          have a1 := ih _ _ _ _ h1 g1
          try simp only [cX, cA] at a1
          have a2 := ih _ _ _ _ h hr
          try simp only [fc_one, fc_app, cX, cA] at a2
          (try simp only [cX, cA]) <;> (try dsimp only at *) <;> omega
      · injection h with h; subst h; (try simp only [cX, cA]) <;> (try dsimp only at *) <;> omega
    | args first =>
      rw [exM] at h
      split at h
      · obtain ⟨t, h1, h⟩ := Option.bind_eq_some_iff.1 h
        split at h
        · injection h with h; subst h
          have a1 := ih _ _ _ _ h1 hr
          try simp only [cX, cA] at a1
          (try simp only [cX, cA]) <;> (try dsimp only at *) <;> omega
        · obtain ⟨y, h2, h⟩ := Option.map_eq_some_iff.1 h
          subst h
          have a2 := ih _ _ _ _ h2 hr
          try simp only [cX, cA] at a2
          obtain ⟨g1, q3, _⟩ := want_g (exM_was h2 hr)
          have a1 := ih _ _ _ _ h1 g1
          try simp only [cX, cA] at a1
          (try simp only [fc_app, cX, cA]) <;> (try dsimp only at *) <;> omega
      · injection h with h; subst h; (try simp only [fc_nil, cX, cA]) <;> (try dsimp only at *) <;> omega
    | atom =>
      have leaf : ∀ kd : Nat, kd ≠ 0 → kd ≠ 2 → r = (.one ⟨kd, i, i + 1, textAt l i, i⟩ .nil, i + 1, b) → fc r.1 + 4 * i + cX .atom ≤ 4 * r.2.1 + cA .atom := fun kd k0 k2 e => by
        subst e
        (try simp only [fc_one, fc_nil, cX, cA]) <;> (try dsimp only at *) <;> omega
      rw [exM, if_neg (by omega)] at h
      split at h
      · injection h with h; exact leaf 21 (by omega) (by omega) h.symm
      · split at h
        · injection h with h; exact leaf 22 (by omega) (by omega) h.symm
        · split at h
          · injection h with h; exact leaf 23 (by omega) (by omega) h.symm
          · split at h
            · injection h with h; subst h
              (try simp only [fc_one, fc_nil, cX, cA]) <;> (try dsimp only at *) <;> omega
            · split at h
              · obtain ⟨x, h1, h⟩ := Option.bind_eq_some_iff.1 h
                injection h with h; subst h
                obtain ⟨g1, q1, _⟩ := want_g hr
                have a1 := ih _ _ _ _ h1 g1
                try simp only [cX, cA] at a1
                dsimp only at *
                (try simp only [fc_one, cX, cA]) <;> (try dsimp only at *) <;> omega
              · split at h
                · obtain ⟨x, h1, h⟩ := Option.bind_eq_some_iff.1 h
                  injection h with h; subst h
                  obtain ⟨g1, q1, _⟩ := want_g hr
                  have a1 := ih _ _ _ _ h1 g1
                  try simp only [cX, cA] at a1
                  dsimp only at *
                  (try simp only [fc_one, cX, cA]) <;> (try dsimp only at *) <;> omega
                · obtain ⟨x, h1, h⟩ := Option.bind_eq_some_iff.1 h
                  injection h with h; subst h
                  have a1 := ih _ _ _ _ h1 hr
                  try simp only [cX, cA] at a1
                  obtain ⟨_, q1, _⟩ := want_g (exM_was h1 hr)
                  dsimp only at *
                  (try simp only [fc_one, cX, cA]) <;> (try dsimp only at *) <;> omega
    | entries first =>
      rw [exM] at h
      split at h
      · obtain ⟨t, h1, h⟩ := Option.bind_eq_some_iff.1 h
        have key : t.2.2 < 0 → fc (Fo.one { (wordM l b ⟨27, i, 0, e0, 0⟩ i).1 with til := t.2.1 } t.1) + 4 * i ≤ 4 * t.2.1 := fun hg => by
          have a1 := ih _ _ _ _ h1 hg
          try simp only [cX, cA] at a1
          obtain ⟨g1, q2, _⟩ := want_g (exM_was h1 hg)
          obtain ⟨_, q0, q1, _⟩ := word_g g1
          rw [q0]
          (try simp only [fc_one]) <;> (try dsimp only at *) <;> omega
        split at h
        · injection h with h; subst h; exact key hr
        · obtain ⟨y, h2, h⟩ := Option.map_eq_some_iff.1 h
          subst h
          have a2 := ih _ _ _ _ h2 hr
          try simp only [cX, cA] at a2
          obtain ⟨g1, q3, _⟩ := want_g (exM_was h2 hr)
          have a1 := key g1
          try simp only [fc_one] at a1
          (try simp only [fc_one, fc_app, cX, cA]) <;> (try dsimp only at *) <;> omega
      · injection h with h; subst h; (try simp only [fc_nil, cX, cA]) <;> (try dsimp only at *) <;> omega
theorem use_cnt {b : Int} {i : Nat} (hr : (useM l b i).2.2 < 0) : fc (useM l b i).1 + 4 * i ≤ 4 * (useM l b i).2.1 := by
  unfold useM at hr ⊢
  dsimp only at *
  obtain ⟨g3, q3, _⟩ := want_g hr
  obtain ⟨g2, w2, q2, _⟩ := word_g g3
  obtain ⟨g1, q1, _⟩ := want_g g2
  obtain ⟨_, w0, q0, _⟩ := word_g g1
  (try simp only [fc_one, fc_nil]) <;> (try dsimp only at *) <;> omega
theorem def_cnt {f : Nat} {b : Int} {i : Nat} {r : Fo × Nat × Int} (h : defM l f b i = some r) (hr : r.2.2 < 0) : fc r.1 + 4 * i ≤ 4 * r.2.1 := by
  unfold defM at h
  obtain ⟨k, h1, h⟩ := Option.bind_eq_some_iff.1 h
  injection h with h; subst h
  have a1 := ex_cnt _ _ _ _ _ h1 hr
  try simp only [cX, cA] at a1
  obtain ⟨g1, w0, q0, _⟩ := word_g (exM_was h1 hr)
  obtain ⟨_, q1, _⟩ := want_g g1
  dsimp only at *
  rw [w0]
  (try simp only [fc_one]) <;> (try dsimp only at *) <;> omega
theorem items_cnt : ∀ (f : Nat) (b : Int) (i : Nat) (r : Fo × Nat × Int), itemsM l f b i = some r → r.2.2 < 0 → fc r.1 + 4 * i ≤ 4 * r.2.1 := by
  intro f
  induction f with
  | zero => intro b i r h; rw [itemsM] at h; cases h
  | succ f ih =>
    intro b i r h hr
    have hb : b < 0 := by
      by_cases hh : 0 ≤ b
      · have := items_bad hh h; omega
      · omega
    have was : ∀ {g : Nat} {c : Int} {j : Nat} {y : Fo × Nat × Int}, itemsM l g c j = some y → y.2.2 < 0 → c < 0 := fun hy hg => by
      rename_i c _ _
      by_cases hh : 0 ≤ c
      · have := items_bad hh hy; omega
      · omega
    rw [itemsM] at h
    split at h
    · split at h
      · obtain ⟨x, h1, h⟩ := Option.map_eq_some_iff.1 h
        subst h
        have a2 := ih _ _ _ h1 hr
        try simp only [fc_one, fc_app, fc_zero, fc_nil, cT, cX, cA] at a2
        have a1 := use_cnt (was h1 hr)
        try simp only [fc_one, fc_app, fc_zero, fc_nil, cT, cX, cA] at a1
        (try simp only [fc_app]) <;> (try dsimp only at *) <;> omega
      · obtain ⟨t, h0, h⟩ := Option.bind_eq_some_iff.1 h
        obtain ⟨x, h1, h⟩ := Option.map_eq_some_iff.1 h
        subst h
        have a2 := ih _ _ _ h1 hr
        try simp only [fc_one, fc_app, fc_zero, fc_nil, cT, cX, cA] at a2
        have a1 := def_cnt h0 (was h1 hr)
        try simp only [fc_one, fc_app, fc_zero, fc_nil, cT, cX, cA] at a1
        (try simp only [fc_app]) <;> (try dsimp only at *) <;> omega
    · rename_i hc
      injection h with h; subst h
      (try simp only [fc_nil]) <;> (try dsimp only at *) <;> omega
end Ps
end Go.Proofs.Ytnefnnoleeeedaa
