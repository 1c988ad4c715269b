import Derived.Test.YthjflofcgdfekaaGreatDoorMAY
import Derived.Test.YthjflofcgdfekaaGreatDoorGT
namespace Go.Proofs.YthjflofcgdfekaaGreatDoor
namespace Ps
open Pg
variable {l : List Tok}
def named (k : Nat) : Prop := k = 5 ∨ k = 7 ∨ k = 8 ∨ k = 23
def nodeOK (l : List Tok) (h : Hd) (a t : Nat) : Prop := if h.kind = 0 then h.fro = 0 ∧ h.til = 0 ∧ h.word = e0 else a ≤ h.fro ∧ h.til ≤ t ∧ h.fro ≤ h.til ∧ ((h.word = e0 ∧ ¬ named h.kind) ∨ ((∃ j, h.word = textAt l j) ∧ h.fro ≤ h.at_ ∧ h.at_ < h.til))
def useOK (l : List Tok) (_h : Hd) : Fo → Prop
  | .nil => True
  | .cons hk kk r => kk = .nil ∧ r = .nil ∧ ∃ j, hk.word = textAt l j
def Apt (l : List Tok) : Fo → Nat → Nat → Prop
  | .nil, _, _ => True
  | .cons h k r, a, t => nodeOK l h a t ∧ (h.kind = 0 → k = .nil) ∧ (h.kind = 2 → useOK l h k) ∧ (h.kind ≠ 0 → h.kind ≠ 2 → Apt l k h.fro h.til) ∧ Apt l r (if h.kind = 0 then a else h.til) t
theorem nodeOK.mono {h : Hd} {a a' t t' : Nat} (hh : nodeOK l h a t) (ha : a' ≤ a) (ht : t ≤ t') : nodeOK l h a' t' := by
  unfold nodeOK at hh ⊢
  split at hh
  · rename_i h0; rw [if_pos h0]; exact hh
  · rename_i h0; rw [if_neg h0]; exact ⟨by omega, by omega, hh.2.2.1, hh.2.2.2⟩
theorem Apt.mono : ∀ {k : Fo} {a a' t t' : Nat}, Apt l k a t → a' ≤ a → t ≤ t' → Apt l k a' t'
  | .nil, _, _, _, _, _, _, _ => trivial
  | .cons h k r, a, a', t, t', ⟨h1, h2, h3, h4, h5⟩, ha, ht => ⟨h1.mono ha ht, h2, h3, h4, Apt.mono h5 (by split <;> omega) ht⟩
theorem Apt.app : ∀ {k m : Fo} {a y t : Nat}, Apt l k a y → Apt l m y t → a ≤ y → y ≤ t → Apt l (k.app m) a t
  | .nil, m, a, y, t, _, hm, ha, _ => hm.mono ha (Nat.le_refl _)
  | .cons h k r, m, a, y, t, ⟨h1, h2, h3, h4, h5⟩, hm, ha, ht => ⟨h1.mono (Nat.le_refl _) ht, h2, h3, h4, Apt.app h5 hm (by
      unfold nodeOK at h1
      split
      · exact ha
      · rename_i h0; rw [if_neg h0] at h1; exact h1.2.1) ht⟩
theorem Apt.zero (a t : Nat) : Apt l .zero a t := ⟨by unfold nodeOK; rw [if_pos rfl]; exact ⟨rfl, rfl, rfl⟩, fun _ => rfl, fun h => (by cases h), fun h => absurd rfl h, trivial⟩
theorem Apt.one {h : Hd} {k : Fo} {a t x y : Nat} (h0 : h.kind ≠ 0) (h2 : h.kind ≠ 2) (hk : Apt l k x y) (hx : h.fro ≤ x) (hy : y ≤ h.til) (ha : a ≤ h.fro) (ht : h.til ≤ t) (hft : h.fro ≤ h.til) (hw : (h.word = e0 ∧ ¬ named h.kind) ∨ ((∃ j, h.word = textAt l j) ∧ h.fro ≤ h.at_ ∧ h.at_ < h.til)) : Apt l (.one h k) a t :=
  ⟨by unfold nodeOK; rw [if_neg h0]; exact ⟨ha, ht, hft, hw⟩, fun e => absurd e h0, fun e => absurd e h2, fun _ _ => hk.mono hx hy, trivial⟩
end Ps
namespace Pg
open Ps
section
variable {l : List Tok} {f : Nat} {b : Int} {i p : Nat} {r : Fo × Nat × Int}
end
end Pg
namespace Ps
open Pg
variable {l : List Tok}
theorem want_g {b : Int} {i : Nat} {x : List UInt8} (h : (wantM l b i x).2 < 0) : b < 0 ∧ (wantM l b i x).1 = i + 1 ∧ (wantM l b i x).2 = b := by
  obtain ⟨h1, _, h3⟩ := wantM_good h
  rw [h3]; exact ⟨h1, rfl, rfl⟩
theorem word_g {b : Int} {i : Nat} {hd : Hd} (h : (wordM l b hd i).2.2 < 0) : b < 0 ∧ (wordM l b hd i).1 = { hd with word := textAt l i, at_ := i } ∧ (wordM l b hd i).2.1 = i + 1 ∧ (wordM l b hd i).2.2 = b := by
  obtain ⟨h1, _, h3⟩ := wordM_good h
  rw [h3]; exact ⟨h1, rfl, rfl, rfl⟩
theorem ty_was {f : Nat} {t : TT} {b : Int} {i : Nat} {r : Fo × Nat × Int} (h : tyM l f t b i = some r) (hr : r.2.2 < 0) : b < 0 := by
  by_cases hb : 0 ≤ b
  · have := tyM_bad hb h; omega
  · omega
theorem typed_was {f : Nat} {b : Int} {i : Nat} {r : Fo × Nat × Int} (h : typedM l f b i = some r) (hr : r.2.2 < 0) : b < 0 := by
  by_cases hb : 0 ≤ b
  · have := typedM_bad hb h; omega
  · omega
theorem ty_apt : ∀ (f : Nat) (t : TT) (b : Int) (i : Nat) (r : Fo × Nat × Int), tyM l f t b i = some r → r.2.2 < 0 → Apt l r.1 i r.2.1 ∧ i + sT t ≤ r.2.1 := by
  intro f
  induction f with
  | zero => intro t b i r h; rw [tyM] at h; cases h
  | succ f ih =>
    intro t b i r h hr
    have hb := ty_was h hr
    cases t with
    | kind =>
      simp only [sT]
      rw [tyM, if_neg (by omega)] at h
      split at h
      · injection h with h; subst h; exact ⟨Apt.one (by dsimp only; omega) (by dsimp only; omega) (show Apt l .nil i i from trivial) (Nat.le_refl _) (Nat.le_succ _) (Nat.le_refl _) (Nat.le_refl _) (Nat.le_succ _) (.inl ⟨rfl, by dsimp only [named]; first | omega | (split <;> omega)⟩), Nat.le_refl _⟩
      · split at h
        · injection h with h; subst h; exact ⟨Apt.one (by dsimp only; omega) (by dsimp only; omega) (show Apt l .nil i i from trivial) (Nat.le_refl _) (Nat.le_succ _) (Nat.le_refl _) (Nat.le_refl _) (Nat.le_succ _) (.inl ⟨rfl, by dsimp only [named]; first | omega | (split <;> omega)⟩), Nat.le_refl _⟩
        · split at h
          · injection h with h; subst h; exact ⟨Apt.one (by dsimp only; omega) (by dsimp only; omega) (show Apt l .nil i i from trivial) (Nat.le_refl _) (Nat.le_succ _) (Nat.le_refl _) (Nat.le_refl _) (Nat.le_succ _) (.inl ⟨rfl, by dsimp only [named]; first | omega | (split <;> omega)⟩), Nat.le_refl _⟩
          · split at h
            · obtain ⟨x, hx, h⟩ := Option.bind_eq_some_iff.1 h
              injection h with h; subst h
              obtain ⟨g1, g2, _⟩ := want_g hr
              obtain ⟨a1, a2⟩ := ih _ _ _ _ hx g1
              dsimp only at *
              refine ⟨Apt.one (by dsimp only; omega) (by dsimp only; omega) a1 (by dsimp only; omega) (by dsimp only; omega) (Nat.le_refl _) (Nat.le_refl _) (by dsimp only; omega) (.inl ⟨rfl, by dsimp only [named]; first | omega | (split <;> omega)⟩), by omega⟩
            · obtain ⟨x, hx, h⟩ := Option.bind_eq_some_iff.1 h
              obtain ⟨t, ht, h⟩ := Option.bind_eq_some_iff.1 h
              injection h with h; subst h
              obtain ⟨b1, b2⟩ := ih _ _ _ _ ht hr
              have g4 := ty_was ht hr
              obtain ⟨g3, q4, _⟩ := want_g g4
              obtain ⟨g2, q3, _⟩ := want_g g3
              obtain ⟨a1, a2⟩ := ih _ _ _ _ hx g2
              have g1 := ty_was hx g2
              obtain ⟨g0, q2, _⟩ := want_g g1
              obtain ⟨_, q1, _⟩ := want_g g0
              simp only [sT] at b2
              dsimp only at *
              refine ⟨Apt.one (by dsimp only; omega) (by dsimp only; omega) (Apt.app a1 (b1.mono (by omega) (Nat.le_refl _)) (by omega) (by omega)) (by dsimp only; omega) (Nat.le_refl _) (Nat.le_refl _) (Nat.le_refl _) (by dsimp only; omega) (.inl ⟨rfl, by dsimp only [named]; first | omega | (split <;> omega)⟩), by omega⟩
    | recL first =>
      simp only [sT]
      rw [tyM] at h
      split at h
      · obtain ⟨t, ht, h⟩ := Option.bind_eq_some_iff.1 h
        have key : t.2.2 < 0 → Apt l (.one { (wordM l b ⟨33, i, 0, e0, 0⟩ i).1 with til := t.2.1 } t.1) i t.2.1 ∧ i ≤ t.2.1 := fun hg => by
          obtain ⟨a1, a2⟩ := ih _ _ _ _ ht hg
          have g2 := ty_was ht hg
          obtain ⟨g1, q2, _⟩ := want_g g2
          obtain ⟨_, q0, q1, _⟩ := word_g g1
          rw [q0]
          simp only [sT] at a2
          refine ⟨Apt.one (by dsimp only; omega) (by dsimp only; omega) a1 (by dsimp only; omega) (Nat.le_refl _) (Nat.le_refl _) (Nat.le_refl _) (by dsimp only; omega) (.inr ⟨⟨_, rfl⟩, Nat.le_refl _, by dsimp only; omega⟩), by omega⟩
        split at h
        · injection h with h; subst h
          exact key hr
        · obtain ⟨x, hx, h⟩ := Option.map_eq_some_iff.1 h
          subst h
          obtain ⟨c1, c2⟩ := ih _ _ _ _ hx hr
          have g4 := ty_was hx hr
          obtain ⟨g3, q3, _⟩ := want_g g4
          obtain ⟨d1, d2⟩ := key g3
          simp only [sT] at c2
          exact ⟨Apt.app d1 (c1.mono (by omega) (Nat.le_refl _)) d2 (by dsimp only; omega), by dsimp only; omega⟩
      · injection h with h; subst h; exact ⟨trivial, Nat.le_refl _⟩
    | fnL first =>
      simp only [sT]
      rw [tyM] at h
      split at h
      · obtain ⟨t, ht, h⟩ := Option.bind_eq_some_iff.1 h
        split at h
        · injection h with h; subst h
          obtain ⟨a1, a2⟩ := ih _ _ _ _ ht hr
          simp only [sT] at a2
          exact ⟨a1, by dsimp only; omega⟩
        · obtain ⟨x, hx, h⟩ := Option.map_eq_some_iff.1 h
          subst h
          obtain ⟨c1, c2⟩ := ih _ _ _ _ hx hr
          have g4 := ty_was hx hr
          obtain ⟨g3, q3, _⟩ := want_g g4
          obtain ⟨d1, d2⟩ := ih _ _ _ _ ht g3
          simp only [sT] at c2
          simp only [sT] at d2
          exact ⟨Apt.app d1 (c1.mono (by omega) (Nat.le_refl _)) (by omega) (by dsimp only; omega), by dsimp only; omega⟩
      · injection h with h; subst h; exact ⟨trivial, Nat.le_refl _⟩
theorem typed_apt {f : Nat} {b : Int} {i : Nat} {r : Fo × Nat × Int} (h : typedM l f b i = some r) (hr : r.2.2 < 0) : Apt l r.1 i r.2.1 ∧ i ≤ r.2.1 := by
  unfold typedM at h
  split at h
  · injection h with h; subst h; exact ⟨Apt.zero _ _, Nat.le_refl _⟩
  · obtain ⟨a1, a2⟩ := ty_apt _ _ _ _ _ h hr
    simp only [sT] at a2
    exact ⟨a1.mono (by omega) (Nat.le_refl _), by omega⟩
theorem parL_was {f : Nat} {first : Bool} {b : Int} {i : Nat} {r : Fo × Nat × Int} (h : parL l f first b i = some r) (hr : r.2.2 < 0) : b < 0 := by
  by_cases hb : 0 ≤ b
  · have := parL_bad hb h; omega
  · omega
theorem par_apt : ∀ (f : Nat) (first : Bool) (b : Int) (i : Nat) (r : Fo × Nat × Int), parL l f first b i = some r → r.2.2 < 0 → Apt l r.1 i r.2.1 ∧ i ≤ r.2.1 := by
  intro f
  induction f with
  | zero => intro first b i r h; rw [parL] at h; cases h
  | succ f ih =>
    intro first b i r h hr
    rw [parL] at h
    split at h
    · obtain ⟨t, ht, h⟩ := Option.bind_eq_some_iff.1 h
      have key : t.2.2 < 0 → Apt l (.one { (wordM l b ⟨5, i, 0, e0, 0⟩ i).1 with til := t.2.1 } t.1) i t.2.1 ∧ i ≤ t.2.1 := fun hg => by
        obtain ⟨a1, a2⟩ := typed_apt ht hg
        have g1 := typed_was ht hg
        obtain ⟨_, q0, q1, _⟩ := word_g g1
        rw [q0]
        exact ⟨Apt.one (by dsimp only; omega) (by dsimp only; omega) a1 (by dsimp only; omega) (Nat.le_refl _) (Nat.le_refl _) (Nat.le_refl _) (by dsimp only; omega) (.inr ⟨⟨_, rfl⟩, Nat.le_refl _, by dsimp only; omega⟩), by omega⟩
      split at h
      · injection h with h; subst h; exact key hr
      · obtain ⟨x, hx, h⟩ := Option.map_eq_some_iff.1 h
        subst h
        obtain ⟨c1, c2⟩ := ih _ _ _ _ hx hr
        have g4 := parL_was hx hr
        obtain ⟨g3, q3, _⟩ := want_g g4
        obtain ⟨d1, d2⟩ := key g3
        exact ⟨Apt.app d1 (c1.mono (by omega) (Nat.le_refl _)) d2 (by dsimp only; omega), by dsimp only; omega⟩
    · injection h with h; subst h; exact ⟨trivial, Nat.le_refl _⟩
theorem params_apt {f : Nat} {b : Int} {i : Nat} {r : Fo × Nat × Int} (h : paramsM l f b i = some r) (hr : r.2.2 < 0) : Apt l r.1 i r.2.1 ∧ i < r.2.1 := by
  unfold paramsM at h
  obtain ⟨x, hx, h⟩ := Option.bind_eq_some_iff.1 h
  injection h with h; subst h
  obtain ⟨g2, q2, _⟩ := want_g hr
  obtain ⟨a1, a2⟩ := par_apt _ _ _ _ _ hx g2
  have g1 := parL_was hx g2
  obtain ⟨_, q1, _⟩ := want_g g1
  dsimp only at *
  exact ⟨Apt.one (by dsimp only; omega) (by dsimp only; omega) a1 (by dsimp only; omega) (by dsimp only; omega) (Nat.le_refl _) (Nat.le_refl _) (by dsimp only; omega) (.inl ⟨rfl, by dsimp only [named]; first | omega | (split <;> omega)⟩), by omega⟩
def Pre (l : List Tok) : XT → Nat → Prop
  | .sumL a, i | .termL a, i | .postL a, i => Apt l a a.from_ i ∧ a.from_ ≤ i
  | _, _ => True
def Post (l : List Tok) : XT → Nat → Fo → Nat → Prop
  | .sumL a, i, k, j | .termL a, i, k, j | .postL a, i, k, j => Apt l k k.from_ j ∧ k.from_ = a.from_ ∧ i ≤ j
  | .stmts, i, k, j | .args _, i, k, j | .entries _, i, k, j => Apt l k i j ∧ i ≤ j
  | .expr, i, k, j | .sum, i, k, j | .term, i, k, j | .post, i, k, j | .atom, i, k, j => Apt l k i j ∧ i < j ∧ k.from_ = i
  | _, i, k, j => Apt l k i j ∧ i < j
theorem ex_apt : ∀ (f : Nat) (t : XT) (b : Int) (i : Nat) (r : Fo × Nat × Int), exM l f t b i = some r → r.2.2 < 0 → Pre l t i → Post l t i r.1 r.2.1 := by
  intro f
  induction f with
  | zero => intro t b i r h; rw [exM] at h; cases h
  | succ f ih =>
    intro t b i r h hr hpre
    have hb := exM_was h hr
    cases t with
    | lambda =>
      rw [exM] at h
      obtain ⟨p, h1, h⟩ := Option.bind_eq_some_iff.1 h
      obtain ⟨t, h2, h⟩ := Option.bind_eq_some_iff.1 h
      obtain ⟨k, h3, h⟩ := Option.bind_eq_some_iff.1 h
      injection h with h; subst h
      obtain ⟨a3, q3⟩ := ih _ _ _ _ h3 hr trivial
      have g2 := exM_was h3 hr
      obtain ⟨a2, q2⟩ := typed_apt h2 g2
      have g1 := typed_was h2 g2
      obtain ⟨a1, q1⟩ := params_apt h1 g1
      exact ⟨Apt.app a1 (Apt.app a2 a3 q2 (by dsimp only; omega)) (by omega) (by dsimp only; omega), by dsimp only; omega⟩
    | block =>
      rw [exM] at h
      obtain ⟨x, h1, h⟩ := Option.bind_eq_some_iff.1 h
      injection h with h; subst h
      obtain ⟨g2, q2, _⟩ := want_g hr
      obtain ⟨a1, q1⟩ := ih _ _ _ _ h1 g2 trivial
      have g1 := exM_was h1 g2
      obtain ⟨_, q0, _⟩ := want_g g1
      dsimp only at *
      exact ⟨Apt.one (by dsimp only; omega) (by dsimp only; omega) a1 (by dsimp only; omega) (by dsimp only; omega) (Nat.le_refl _) (Nat.le_refl _) (by dsimp only; omega) (.inl ⟨rfl, by dsimp only [named]; first | omega | (split <;> omega)⟩), by omega⟩
    | stmts =>
      rw [exM] at h
      split at h
      · obtain ⟨x, h1, h⟩ := Option.bind_eq_some_iff.1 h
        obtain ⟨y, h2, h⟩ := Option.map_eq_some_iff.1 h
        subst h
        obtain ⟨a2, q2⟩ := ih _ _ _ _ h2 hr trivial
        obtain ⟨a1, q1⟩ := ih _ _ _ _ h1 (exM_was h2 hr) trivial
        exact ⟨Apt.app a1 a2 (by omega) q2, by dsimp only; omega⟩
      · injection h with h; subst h; exact ⟨trivial, Nat.le_refl _⟩
    | stmt =>
      by_cases hif : isM l i kIf = true
      · obtain ⟨c, k, o, hc, hk, ho, e⟩ := st_if h rfl hif
        subst e
        have gk : k.2.2 < 0 := by
          by_cases hh : 0 ≤ k.2.2
          · have := other_bad hh ho; dsimp only at hr; omega
          · omega
        have ao : Apt l o.1 k.2.1 o.2.1 ∧ k.2.1 ≤ o.2.1 := by
          unfold otherM at ho
          split at ho
          · obtain ⟨a3, q3⟩ := ih _ _ _ _ ho hr trivial
            exact ⟨a3.mono (by omega) (Nat.le_refl _), by omega⟩
          · injection ho with ho; rw [← ho]; exact ⟨Apt.zero _ _, Nat.le_refl _⟩
        obtain ⟨a2, q2⟩ := ih _ _ _ _ hk gk trivial
        obtain ⟨a1, q1, _⟩ := ih _ _ _ _ hc (exM_was hk gk) trivial
        exact ⟨Apt.one (by dsimp only; omega) (by dsimp only; omega) (Apt.app a1 (Apt.app a2 ao.1 (by omega) ao.2) (by omega) (by omega)) (by dsimp only; omega) (Nat.le_refl _) (Nat.le_refl _) (Nat.le_refl _) (by dsimp only; omega) (.inl ⟨rfl, by dsimp only [named]; first | omega | (split <;> omega)⟩), by dsimp only; omega⟩
      · by_cases hwh : isM l i kWhile = true
        · obtain ⟨c, k, hc, hk, e⟩ := st_while h rfl hwh
          subst e
          obtain ⟨a2, q2⟩ := ih _ _ _ _ hk hr trivial
          obtain ⟨a1, q1, _⟩ := ih _ _ _ _ hc (exM_was hk hr) trivial
          exact ⟨Apt.one (by dsimp only; omega) (by dsimp only; omega) (Apt.app a1 a2 (by omega) (by omega)) (by dsimp only; omega) (Nat.le_refl _) (Nat.le_refl _) (Nat.le_refl _) (by dsimp only; omega) (.inl ⟨rfl, by dsimp only [named]; first | omega | (split <;> omega)⟩), by dsimp only; omega⟩
        · by_cases hlet : isM l i kLet = true
          · obtain ⟨t, v, ht, hv, e⟩ := st_let h rfl hlet
            subst e
            obtain ⟨g3, q3, _⟩ := want_g hr
            obtain ⟨a2, q2, _⟩ := ih _ _ _ _ hv g3 trivial
            have g2 := exM_was hv g3
            obtain ⟨g1, q1, _⟩ := want_g g2
            obtain ⟨a1, p1⟩ := typed_apt ht g1
            have g0 := typed_was ht g1
            have e1 : (wordM l b ⟨7, i, 0, e0, 0⟩ (i + 1)).2 = (wordM l b ⟨0, 0, 0, e0, 0⟩ (i + 1)).2 := wordM_snd _ _ _ _
            rw [← e1] at g0 a1 p1
            obtain ⟨_, w0, w1, _⟩ := word_g g0
            rw [w0]
            dsimp only at *
            exact ⟨Apt.one (by dsimp only; omega) (by dsimp only; omega) (Apt.app a1 (a2.mono (by omega) (Nat.le_refl _)) p1 (by omega)) (by dsimp only; omega) (by dsimp only; omega) (Nat.le_refl _) (Nat.le_refl _) (by dsimp only; omega) (.inr ⟨⟨_, rfl⟩, by dsimp only; omega, by dsimp only; omega⟩), by omega⟩
          · have close : ∀ (kd j : Nat), kd ≠ 0 → kd ≠ 2 → ¬ named kd → i ≤ j → closeM l f kd i (j, b) = some r → Post l .stmt i r.1 r.2.1 := fun kd j k0 k2 kn hj hc => by
              unfold closeM at hc
              obtain ⟨v, hv, e⟩ := Option.bind_eq_some_iff.1 hc
              injection e with e; subst e
              obtain ⟨g1, q1, _⟩ := want_g hr
              obtain ⟨a1, p1, _⟩ := ih _ _ _ _ hv g1 trivial
              dsimp only at *
              exact ⟨Apt.one k0 k2 a1 (by dsimp only; omega) (by dsimp only; omega) (Nat.le_refl _) (Nat.le_refl _) (by dsimp only; omega) (.inl ⟨rfl, kn⟩), by omega⟩
            by_cases hpr : isM l i kPrint = true
            · exact close 11 (i + 1) (by omega) (by omega) (by unfold named; omega) (by omega) (st_print h rfl hpr)
            · by_cases hre : isM l i kReturn = true
              · exact close 12 (i + 1) (by omega) (by omega) (by unfold named; omega) (by omega) (st_return h rfl hre)
              · by_cases hse : kindAt l i = 1 ∧ isM l (i + 1) sEq = true
                · obtain ⟨v, hv, e⟩ := st_word h rfl hb hse.1 hse.2
                  subst e
                  obtain ⟨g1, q1, _⟩ := want_g hr
                  obtain ⟨a1, p1, _⟩ := ih _ _ _ _ hv g1 trivial
                  dsimp only at *
                  exact ⟨Apt.one (by dsimp only; omega) (by dsimp only; omega) a1 (by dsimp only; omega) (by dsimp only; omega) (Nat.le_refl _) (Nat.le_refl _) (by dsimp only; omega) (.inr ⟨⟨_, rfl⟩, Nat.le_refl _, by dsimp only; omega⟩), by omega⟩
                · exact close 13 i (by omega) (by omega) (by unfold named; omega) (by omega) (st_do h rfl (by simpa using hlet) (by simpa using hif) (by simpa using hwh) (by simpa using hpr) (by simpa using hre) hse)
    | expr =>
      rw [exM] at h
      obtain ⟨a, h1, h⟩ := Option.bind_eq_some_iff.1 h
      split at h
      · injection h with h; subst h
        have hh := ih _ _ _ _ h1 hr trivial
        exact hh
      · obtain ⟨c, h2, h⟩ := Option.bind_eq_some_iff.1 h
        injection h with h; subst h
        obtain ⟨a2, q2, _⟩ := ih _ _ _ _ h2 hr trivial
        obtain ⟨a1, q1, p1⟩ := ih _ _ _ _ h1 (exM_was h2 hr) trivial
        dsimp only at *
        rw [p1]
        exact ⟨Apt.one (by dsimp only; split <;> omega) (by dsimp only; split <;> omega) (Apt.app a1 (a2.mono (by omega) (Nat.le_refl _)) (by omega) (by omega)) (Nat.le_refl _) (Nat.le_refl _) (Nat.le_refl _) (Nat.le_refl _) (by dsimp only; omega) (.inl ⟨rfl, by dsimp only [named]; first | omega | (split <;> omega)⟩), by omega, rfl⟩
    | sum =>
      rw [exM] at h
      obtain ⟨a, h1, h⟩ := Option.bind_eq_some_iff.1 h
      obtain ⟨a1, q1, p1⟩ := ih _ _ _ _ h1 (exM_was h hr) trivial
      obtain ⟨a2, q2, p2⟩ := ih _ _ _ _ h hr (show Apt l a.1 a.1.from_ a.2.1 ∧ a.1.from_ ≤ a.2.1 by rw [p1]; exact ⟨a1, by omega⟩)
      rw [q2, p1] at a2
      exact ⟨a2, by omega, by rw [q2, p1]⟩
    | term =>
      rw [exM] at h
      obtain ⟨a, h1, h⟩ := Option.bind_eq_some_iff.1 h
      obtain ⟨a1, q1, p1⟩ := ih _ _ _ _ h1 (exM_was h hr) trivial
      obtain ⟨a2, q2, p2⟩ := ih _ _ _ _ h hr (show Apt l a.1 a.1.from_ a.2.1 ∧ a.1.from_ ≤ a.2.1 by rw [p1]; exact ⟨a1, by omega⟩)
      rw [q2, p1] at a2
      exact ⟨a2, by omega, by rw [q2, p1]⟩
    | post =>
      rw [exM] at h
      obtain ⟨a, h1, h⟩ := Option.bind_eq_some_iff.1 h
      obtain ⟨a1, q1, p1⟩ := ih _ _ _ _ h1 (exM_was h hr) trivial
      obtain ⟨a2, q2, p2⟩ := ih _ _ _ _ h hr (show Apt l a.1 a.1.from_ a.2.1 ∧ a.1.from_ ≤ a.2.1 by rw [p1]; exact ⟨a1, by omega⟩)
      rw [q2, p1] at a2
      exact ⟨a2, by omega, by rw [q2, p1]⟩
    | sumL a =>
      obtain ⟨pa, pf⟩ := hpre
      rw [exM] at h
      split at h
      · obtain ⟨c, h1, h⟩ := Option.bind_eq_some_iff.1 h
        obtain ⟨a1, q1, _⟩ := ih _ _ _ _ h1 (exM_was h hr) trivial
        obtain ⟨a2, q2, p2⟩ := ih _ _ _ _ h hr ⟨Apt.one (by dsimp only; split <;> omega) (by dsimp only; split <;> omega) (Apt.app pa (a1.mono (by omega) (Nat.le_refl _)) pf (by omega)) (Nat.le_refl _) (Nat.le_refl _) (Nat.le_refl _) (Nat.le_refl _) (by dsimp only; omega) (.inl ⟨rfl, by dsimp only [named]; first | omega | (split <;> omega)⟩), by show a.from_ ≤ _; omega⟩
        exact ⟨a2, q2, by omega⟩
      · injection h with h; subst h; exact ⟨pa, rfl, Nat.le_refl _⟩
    | termL a =>
      obtain ⟨pa, pf⟩ := hpre
      rw [exM] at h
      split at h
      · obtain ⟨c, h1, h⟩ := Option.bind_eq_some_iff.1 h
        obtain ⟨a1, q1, _⟩ := ih _ _ _ _ h1 (exM_was h hr) trivial
        obtain ⟨a2, q2, p2⟩ := ih _ _ _ _ h hr ⟨Apt.one (by dsimp only; omega) (by dsimp only; omega) (Apt.app pa (a1.mono (by omega) (Nat.le_refl _)) pf (by omega)) (Nat.le_refl _) (Nat.le_refl _) (Nat.le_refl _) (Nat.le_refl _) (by dsimp only; omega) (.inl ⟨rfl, by dsimp only [named]; first | omega | (split <;> omega)⟩), by show a.from_ ≤ _; omega⟩
        exact ⟨a2, q2, by omega⟩
      · injection h with h; subst h; exact ⟨pa, rfl, Nat.le_refl _⟩
    | postL a =>
      obtain ⟨pa, pf⟩ := hpre
      rw [exM] at h
      split at h
      · split at h
        · have g1 := exM_was h hr
          obtain ⟨_, w0, w1, _⟩ := word_g g1
          dsimp only at h
          rw [w0] at h
          obtain ⟨a2, q2, p2⟩ := ih _ _ _ _ h hr ⟨Apt.one (by dsimp only; omega) (by dsimp only; omega) pa (Nat.le_refl _) (by dsimp only; omega) (Nat.le_refl _) (Nat.le_refl _) (by dsimp only; omega) (.inr ⟨⟨_, rfl⟩, by dsimp only; omega, by dsimp only; omega⟩), by show a.from_ ≤ _; omega⟩
          exact ⟨a2, q2, by omega⟩
        · obtain ⟨k, h1, h⟩ := Option.bind_eq_some_iff.1 h
          have g2 := exM_was h hr
          obtain ⟨g1, q3, _⟩ := want_g g2
          obtain ⟨a1, q1⟩ := ih _ _ _ _ h1 g1 trivial
          obtain ⟨a2, q2, p2⟩ := ih _ _ _ _ h hr ⟨Apt.one (by dsimp only; omega) (by dsimp only; omega) (Apt.app pa (a1.mono (by omega) (Nat.le_refl _)) pf (by omega)) (Nat.le_refl _) (by dsimp only; omega) (Nat.le_refl _) (Nat.le_refl _) (by dsimp only; omega) (.inl ⟨rfl, by dsimp only [named]; first | omega | (split <;> omega)⟩), by show a.from_ ≤ _; omega⟩
          exact ⟨a2, q2, by omega⟩
      · injection h with h; subst h; exact ⟨pa, rfl, Nat.le_refl _⟩
    | args first =>
      rw [exM] at h
      split at h
      · obtain ⟨t, h1, h⟩ := Option.bind_eq_some_iff.1 h
        split at h
        · injection h with h; subst h
          obtain ⟨a1, q1, _⟩ := ih _ _ _ _ h1 hr trivial
          exact ⟨a1, by dsimp only; omega⟩
        · obtain ⟨y, h2, h⟩ := Option.map_eq_some_iff.1 h
          subst h
          obtain ⟨a2, q2⟩ := ih _ _ _ _ h2 hr trivial
          obtain ⟨g1, q3, _⟩ := want_g (exM_was h2 hr)
          obtain ⟨a1, q1, _⟩ := ih _ _ _ _ h1 g1 trivial
          exact ⟨Apt.app a1 (a2.mono (by omega) (Nat.le_refl _)) (by omega) (by dsimp only; omega), by dsimp only; omega⟩
      · injection h with h; subst h; exact ⟨trivial, Nat.le_refl _⟩
    | atom =>
      have leaf : ∀ kd : Nat, kd ≠ 0 → kd ≠ 2 → r = (.one ⟨kd, i, i + 1, textAt l i, i⟩ .nil, i + 1, b) → Post l .atom i r.1 r.2.1 := fun kd k0 k2 e => by
        subst e
        exact ⟨Apt.one k0 k2 (show Apt l .nil i i from trivial) (Nat.le_refl _) (Nat.le_succ _) (Nat.le_refl _) (Nat.le_refl _) (Nat.le_succ _) (.inr ⟨⟨_, rfl⟩, Nat.le_refl _, Nat.lt_succ_self _⟩), Nat.lt_succ_self _, rfl⟩
      rw [exM, if_neg (by omega)] at h
      split at h
      · injection h with h; exact leaf 21 (by omega) (by omega) h.symm
      · split at h
        · injection h with h; exact leaf 22 (by omega) (by omega) h.symm
        · split at h
          · injection h with h; exact leaf 23 (by omega) (by omega) h.symm
          · split at h
            · injection h with h; subst h
              exact ⟨Apt.one (by dsimp only; omega) (by dsimp only; omega) (show Apt l .nil i i from trivial) (Nat.le_refl _) (Nat.le_succ _) (Nat.le_refl _) (Nat.le_refl _) (Nat.le_succ _) (.inl ⟨rfl, by dsimp only [named]; first | omega | (split <;> omega)⟩), Nat.lt_succ_self _, rfl⟩
            · split at h
              · obtain ⟨x, h1, h⟩ := Option.bind_eq_some_iff.1 h
                injection h with h; subst h
                obtain ⟨g1, q1, _⟩ := want_g hr
                obtain ⟨a1, p1, _⟩ := ih _ _ _ _ h1 g1 trivial
                dsimp only at *
                exact ⟨Apt.one (by dsimp only; omega) (by dsimp only; omega) a1 (by dsimp only; omega) (by dsimp only; omega) (Nat.le_refl _) (Nat.le_refl _) (by dsimp only; omega) (.inl ⟨rfl, by dsimp only [named]; first | omega | (split <;> omega)⟩), by omega, rfl⟩
              · split at h
                · obtain ⟨x, h1, h⟩ := Option.bind_eq_some_iff.1 h
                  injection h with h; subst h
                  obtain ⟨g1, q1, _⟩ := want_g hr
                  obtain ⟨a1, p1⟩ := ih _ _ _ _ h1 g1 trivial
                  dsimp only at *
                  exact ⟨Apt.one (by dsimp only; omega) (by dsimp only; omega) a1 (by dsimp only; omega) (by dsimp only; omega) (Nat.le_refl _) (Nat.le_refl _) (by dsimp only; omega) (.inl ⟨rfl, by dsimp only [named]; first | omega | (split <;> omega)⟩), by omega, rfl⟩
                · obtain ⟨x, h1, h⟩ := Option.bind_eq_some_iff.1 h
                  injection h with h; subst h
                  obtain ⟨a1, p1⟩ := ih _ _ _ _ h1 hr trivial
                  obtain ⟨_, q1, _⟩ := want_g (exM_was h1 hr)
                  dsimp only at *
                  exact ⟨Apt.one (by dsimp only; omega) (by dsimp only; omega) a1 (by dsimp only; omega) (Nat.le_refl _) (Nat.le_refl _) (Nat.le_refl _) (by dsimp only; omega) (.inl ⟨rfl, by dsimp only [named]; first | omega | (split <;> omega)⟩), by omega, rfl⟩
    | entries first =>
      rw [exM] at h
      split at h
      · obtain ⟨t, h1, h⟩ := Option.bind_eq_some_iff.1 h
        have key : t.2.2 < 0 → Apt l (.one { (wordM l b ⟨27, i, 0, e0, 0⟩ i).1 with til := t.2.1 } t.1) i t.2.1 ∧ i ≤ t.2.1 := fun hg => by
          obtain ⟨a1, a2, _⟩ := ih _ _ _ _ h1 hg trivial
          obtain ⟨g1, q2, _⟩ := want_g (exM_was h1 hg)
          obtain ⟨_, q0, q1, _⟩ := word_g g1
          rw [q0]
          exact ⟨Apt.one (by dsimp only; omega) (by dsimp only; omega) a1 (by dsimp only; omega) (Nat.le_refl _) (Nat.le_refl _) (Nat.le_refl _) (by dsimp only; omega) (.inr ⟨⟨_, rfl⟩, Nat.le_refl _, by dsimp only; omega⟩), by omega⟩
        split at h
        · injection h with h; subst h; exact key hr
        · obtain ⟨y, h2, h⟩ := Option.map_eq_some_iff.1 h
          subst h
          obtain ⟨a2, q2⟩ := ih _ _ _ _ h2 hr trivial
          obtain ⟨g1, q3, _⟩ := want_g (exM_was h2 hr)
          obtain ⟨a1, q1⟩ := key g1
          exact ⟨Apt.app a1 (a2.mono (by omega) (Nat.le_refl _)) q1 (by dsimp only; omega), by dsimp only; omega⟩
      · injection h with h; subst h; exact ⟨trivial, Nat.le_refl _⟩
theorem use_apt {b : Int} {i : Nat} (hr : (useM l b i).2.2 < 0) : Apt l (useM l b i).1 i (useM l b i).2.1 ∧ i ≤ (useM l b i).2.1 := by
  unfold useM at hr ⊢
  dsimp only at *
  obtain ⟨g3, q3, _⟩ := want_g hr
  obtain ⟨g2, w2, q2, _⟩ := word_g g3
  obtain ⟨g1, q1, _⟩ := want_g g2
  obtain ⟨_, w0, q0, _⟩ := word_g g1
  rw [w2, w0]
  refine ⟨⟨?_, fun h => (by cases h), fun _ => ⟨rfl, rfl, _, rfl⟩, fun _ h => absurd rfl h, trivial⟩, by omega⟩
  unfold nodeOK
  dsimp only
  rw [if_neg (by omega)]
  exact ⟨Nat.le_refl _, Nat.le_refl _, by omega, .inr ⟨⟨_, rfl⟩, by omega, by omega⟩⟩
theorem def_apt {f : Nat} {b : Int} {i : Nat} {r : Fo × Nat × Int} (h : defM l f b i = some r) (hr : r.2.2 < 0) : Apt l r.1 i r.2.1 ∧ i ≤ r.2.1 := by
  unfold defM at h
  obtain ⟨k, h1, h⟩ := Option.bind_eq_some_iff.1 h
  injection h with h; subst h
  obtain ⟨a1, p1⟩ := ex_apt _ _ _ _ _ h1 hr trivial
  obtain ⟨g1, w0, q0, _⟩ := word_g (exM_was h1 hr)
  obtain ⟨_, q1, _⟩ := want_g g1
  dsimp only at *
  rw [w0]
  exact ⟨Apt.one (by dsimp only; omega) (by dsimp only; omega) a1 (by dsimp only; omega) (Nat.le_refl _) (Nat.le_refl _) (Nat.le_refl _) (by dsimp only; omega) (.inr ⟨⟨_, rfl⟩, by dsimp only; omega, by dsimp only; omega⟩), by omega⟩
theorem items_apt : ∀ (f : Nat) (b : Int) (i : Nat) (r : Fo × Nat × Int), itemsM l f b i = some r → r.2.2 < 0 → Apt l r.1 i r.2.1 ∧ i ≤ r.2.1 ∧ kindAt l r.2.1 = 0 := by
  intro f
  induction f with
  | zero => intro b i r h; rw [itemsM] at h; cases h
  | succ f ih =>
    intro b i r h hr
    have hb : b < 0 := by
      by_cases hh : 0 ≤ b
      · have := items_bad hh h; omega
      · omega
    have was : ∀ {g : Nat} {c : Int} {j : Nat} {y : Fo × Nat × Int}, itemsM l g c j = some y → y.2.2 < 0 → c < 0 := fun hy hg => by
      rename_i c _ _
      by_cases hh : 0 ≤ c
      · have := items_bad hh hy; omega
      · omega
    rw [itemsM] at h
    split at h
    · split at h
      · obtain ⟨x, h1, h⟩ := Option.map_eq_some_iff.1 h
        subst h
        obtain ⟨a2, q2, z2⟩ := ih _ _ _ h1 hr
        obtain ⟨a1, q1⟩ := use_apt (was h1 hr)
        exact ⟨Apt.app a1 a2 q1 q2, by dsimp only; omega, z2⟩
      · obtain ⟨t, h0, h⟩ := Option.bind_eq_some_iff.1 h
        obtain ⟨x, h1, h⟩ := Option.map_eq_some_iff.1 h
        subst h
        obtain ⟨a2, q2, z2⟩ := ih _ _ _ h1 hr
        obtain ⟨a1, q1⟩ := def_apt h0 (was h1 hr)
        exact ⟨Apt.app a1 a2 q1 q2, by dsimp only; omega, z2⟩
    · rename_i hc
      injection h with h; subst h
      refine ⟨trivial, Nat.le_refl _, ?_⟩
      dsimp only
      by_cases hk : kindAt l i = 0
      · exact hk
      · exact absurd ⟨hb, hk⟩ hc
def Its : Fo → Prop
  | .nil => True
  | .cons h _ r => (h.kind = 2 ∨ h.kind = 3) ∧ Its r
theorem Its.app : ∀ {a b : Fo}, Its a → Its b → Its (a.app b)
  | .nil, _, _, hb => hb
  | .cons _ _ _, _, ha, hb => ⟨ha.1, Its.app ha.2 hb⟩
theorem word_kind (b : Int) (h : Hd) (i : Nat) : (wordM l b h i).1.kind = h.kind := by
  unfold wordM
  split
  · rfl
  · split <;> rfl
theorem items_its : ∀ (f : Nat) (b : Int) (i : Nat) (r : Fo × Nat × Int), itemsM l f b i = some r → Its r.1 := by
  intro f
  induction f with
  | zero => intro b i r h; rw [itemsM] at h; cases h
  | succ f ih =>
    intro b i r h
    rw [itemsM] at h
    split at h
    · split at h
      · obtain ⟨x, h1, h⟩ := Option.map_eq_some_iff.1 h
        subst h
        exact Its.app ⟨.inl (word_kind _ _ _), trivial⟩ (ih _ _ _ h1)
      · obtain ⟨t, h0, h⟩ := Option.bind_eq_some_iff.1 h
        obtain ⟨x, h1, h⟩ := Option.map_eq_some_iff.1 h
        subst h
        unfold defM at h0
        obtain ⟨k, _, h0⟩ := Option.bind_eq_some_iff.1 h0
        injection h0 with h0
        subst h0
        exact Its.app ⟨.inr (word_kind _ _ _), trivial⟩ (ih _ _ _ h1)
    · injection h with h
      subst h
      exact trivial
end Ps
end Go.Proofs.YthjflofcgdfekaaGreatDoor
