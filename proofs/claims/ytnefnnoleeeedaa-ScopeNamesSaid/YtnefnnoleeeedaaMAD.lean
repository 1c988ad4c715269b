import Derived.Test.YtnefnnoleeeedaaMAC
import Derived.BigQuiet
import Derived.Test.YtnefnnoleeeedaaMAB
import Derived.Laws.AppendOwn
import Derived.Maps.OwnSet
import Derived.Deep.AppendLies
namespace Go.Proofs.Ytnefnnoleeeedaa
namespace Ps
open Pg
variable {l : List Tok}
def nam (k : Nat) : Prop := k = 2 ∨ k = 3 ∨ k = 5 ∨ k = 7 ∨ k = 8 ∨ k = 23
def low (h : Hd) : Nat := if h.kind = 3 ∨ h.kind = 5 ∨ h.kind = 7 ∨ h.kind = 8 then h.at_ + 1 else h.fro
def nodeOZ (l : List Tok) (h : Hd) (a t : Nat) : Prop := if h.kind = 0 then h.fro = 0 ∧ h.til = 0 ∧ h.word = e0 ∧ h.at_ = 0 else a ≤ h.fro ∧ h.til ≤ t ∧ h.fro ≤ h.til ∧ ((h.word = e0 ∧ h.at_ = 0 ∧ ¬ nam h.kind) ∨ ((h.word = textAt l h.at_ ∧ (nam h.kind → kindAt l h.at_ = 1)) ∧ h.fro ≤ h.at_ ∧ h.at_ < h.til))
def useOZ (l : List Tok) (_h : Hd) : Fo → Prop
  | .nil => True
  | .cons hk kk r => kk = .nil ∧ r = .nil ∧ hk.word = textAt l hk.at_
def Azt (l : List Tok) : Fo → Nat → Nat → Prop
  | .nil, _, _ => True
  | .cons h k r, a, t => nodeOZ l h a t ∧ (h.kind = 0 → k = .nil) ∧ (h.kind = 2 → useOZ l h k) ∧ (h.kind ≠ 0 → h.kind ≠ 2 → low h ≤ h.til ∧ Azt l k (low h) h.til) ∧ Azt l r (if h.kind = 0 then a else h.til) t
theorem nodeOZ.mono {h : Hd} {a a' t t' : Nat} (hh : nodeOZ l h a t) (ha : a' ≤ a) (ht : t ≤ t') : nodeOZ l h a' t' := by
  unfold nodeOZ at hh ⊢
  split at hh
  · rename_i h0; rw [if_pos h0]; exact hh
  · rename_i h0; rw [if_neg h0]; exact ⟨by omega, by omega, hh.2.2.1, hh.2.2.2⟩
theorem Azt.mono : ∀ {k : Fo} {a a' t t' : Nat}, Azt l k a t → a' ≤ a → t ≤ t' → Azt l k a' t'
  | .nil, _, _, _, _, _, _, _ => trivial
  | .cons h k r, a, a', t, t', ⟨h1, h2, h3, h4, h5⟩, ha, ht => ⟨h1.mono ha ht, h2, h3, h4, Azt.mono h5 (by split <;> omega) ht⟩
theorem Azt.app : ∀ {k m : Fo} {a y t : Nat}, Azt l k a y → Azt l m y t → a ≤ y → y ≤ t → Azt l (k.app m) a t
  | .nil, m, a, y, t, _, hm, ha, _ => hm.mono ha (Nat.le_refl _)
  | .cons h k r, m, a, y, t, ⟨h1, h2, h3, h4, h5⟩, hm, ha, ht => ⟨h1.mono (Nat.le_refl _) ht, h2, h3, h4, Azt.app h5 hm (by
      unfold nodeOZ at h1
      split
      · exact ha
      · rename_i h0; rw [if_neg h0] at h1; exact h1.2.1) ht⟩
theorem Azt.zero (a t : Nat) : Azt l .zero a t := ⟨by unfold nodeOZ; rw [if_pos rfl]; exact ⟨rfl, rfl, rfl, rfl⟩, fun _ => rfl, fun h => (by cases h), fun h => absurd rfl h, trivial⟩
theorem Azt.one {h : Hd} {k : Fo} {a t x y : Nat} (h0 : h.kind ≠ 0) (h2 : h.kind ≠ 2) (hk : Azt l k x y) (hx : low h ≤ x) (hxy : x ≤ y) (hy : y ≤ h.til) (ha : a ≤ h.fro) (ht : h.til ≤ t) (hft : h.fro ≤ h.til) (hw : (h.word = e0 ∧ h.at_ = 0 ∧ ¬ nam h.kind) ∨ ((h.word = textAt l h.at_ ∧ (nam h.kind → kindAt l h.at_ = 1)) ∧ h.fro ≤ h.at_ ∧ h.at_ < h.til)) : Azt l (.one h k) a t :=
  ⟨by unfold nodeOZ; rw [if_neg h0]; exact ⟨ha, ht, hft, hw⟩, fun e => absurd e h0, fun e => absurd e h2, fun _ _ => ⟨Nat.le_trans hx (Nat.le_trans hxy hy), hk.mono hx hy⟩, trivial⟩
theorem word_gz {b : Int} {i : Nat} {hd : Hd} (h : (wordM l b hd i).2.2 < 0) : b < 0 ∧ (wordM l b hd i).1 = { hd with word := textAt l i, at_ := i } ∧ (wordM l b hd i).2.1 = i + 1 ∧ (wordM l b hd i).2.2 = b ∧ kindAt l i = 1 := by
  obtain ⟨h1, h2, h3⟩ := wordM_good h
  exact ⟨h1, by rw [h3], by rw [h3], by rw [h3], h2⟩
theorem ty_azt : ∀ (f : Nat) (t : TT) (b : Int) (i : Nat) (r : Fo × Nat × Int), tyM l f t b i = some r → r.2.2 < 0 → Azt l r.1 i r.2.1 ∧ i + sT t ≤ r.2.1 := by
  intro f
  induction f with
  | zero => intro t b i r h; rw [tyM] at h; cases h
  | succ f ih =>
    intro t b i r h hr
    have hb := ty_was h hr
    cases t with
    | kind =>
      simp only [sT]
      rw [tyM, if_neg (by omega)] at h
      split at h
      · injection h with h; subst h; exact ⟨Azt.one (by dsimp only; omega) (by dsimp only; omega) (show Azt l .nil i i from trivial) (by unfold low; dsimp only; first | ((repeat' split) <;> omega) | (unfold nam at kn; (repeat' split) <;> omega)) (by first | exact Nat.le_refl _ | (dsimp only; omega) | omega) (Nat.le_succ _) (Nat.le_refl _) (Nat.le_refl _) (Nat.le_succ _) (.inl ⟨rfl, rfl, by dsimp only [nam]; first | omega | (split <;> omega)⟩), Nat.le_refl _⟩
      · split at h
        · injection h with h; subst h; exact ⟨Azt.one (by dsimp only; omega) (by dsimp only; omega) (show Azt l .nil i i from trivial) (by unfold low; dsimp only; first | ((repeat' split) <;> omega) | (unfold nam at kn; (repeat' split) <;> omega)) (by first | exact Nat.le_refl _ | (dsimp only; omega) | omega) (Nat.le_succ _) (Nat.le_refl _) (Nat.le_refl _) (Nat.le_succ _) (.inl ⟨rfl, rfl, by dsimp only [nam]; first | omega | (split <;> omega)⟩), Nat.le_refl _⟩
        · split at h
          · injection h with h; subst h; exact ⟨Azt.one (by dsimp only; omega) (by dsimp only; omega) (show Azt l .nil i i from trivial) (by unfold low; dsimp only; first | ((repeat' split) <;> omega) | (unfold nam at kn; (repeat' split) <;> omega)) (by first | exact Nat.le_refl _ | (dsimp only; omega) | omega) (Nat.le_succ _) (Nat.le_refl _) (Nat.le_refl _) (Nat.le_succ _) (.inl ⟨rfl, rfl, by dsimp only [nam]; first | omega | (split <;> omega)⟩), Nat.le_refl _⟩
          · split at h
            · obtain ⟨x, hx, h⟩ := Option.bind_eq_some_iff.1 h
              injection h with h; subst h
              obtain ⟨g1, g2, _⟩ := want_g hr
              obtain ⟨a1, a2⟩ := ih _ _ _ _ hx g1
              dsimp only at *
              refine ⟨Azt.one (by dsimp only; omega) (by dsimp only; omega) a1 (by unfold low; dsimp only; first | ((repeat' split) <;> omega) | (unfold nam at kn; (repeat' split) <;> omega)) (by first | exact Nat.le_refl _ | (dsimp only; omega) | omega) (by dsimp only; omega) (Nat.le_refl _) (Nat.le_refl _) (by dsimp only; omega) (.inl ⟨rfl, rfl, by dsimp only [nam]; first | omega | (split <;> omega)⟩), by omega⟩
            · obtain ⟨x, hx, h⟩ := Option.bind_eq_some_iff.1 h
              obtain ⟨t, ht, h⟩ := Option.bind_eq_some_iff.1 h
              injection h with h; subst h
              obtain ⟨b1, b2⟩ := ih _ _ _ _ ht hr
              have g4 := ty_was ht hr
              obtain ⟨g3, q4, _⟩ := want_g g4
              obtain ⟨g2, q3, _⟩ := want_g g3
              obtain ⟨a1, a2⟩ := ih _ _ _ _ hx g2
              have g1 := ty_was hx g2
              obtain ⟨g0, q2, _⟩ := want_g g1
              obtain ⟨_, q1, _⟩ := want_g g0
              simp only [sT] at b2
              dsimp only at *
              refine ⟨Azt.one (by dsimp only; omega) (by dsimp only; omega) (Azt.app a1 (b1.mono (by omega) (Nat.le_refl _)) (by omega) (by omega)) (by unfold low; dsimp only; first | ((repeat' split) <;> omega) | (unfold nam at kn; (repeat' split) <;> omega)) (by first | exact Nat.le_refl _ | (dsimp only; omega) | omega) (Nat.le_refl _) (Nat.le_refl _) (Nat.le_refl _) (by dsimp only; omega) (.inl ⟨rfl, rfl, by dsimp only [nam]; first | omega | (split <;> omega)⟩), by omega⟩
    | recL first =>
      simp only [sT]
      rw [tyM] at h
      split at h
      · obtain ⟨t, ht, h⟩ := Option.bind_eq_some_iff.1 h
        have key : t.2.2 < 0 → Azt l (.one { (wordM l b ⟨33, i, 0, e0, 0⟩ i).1 with til := t.2.1 } t.1) i t.2.1 ∧ i ≤ t.2.1 := fun hg => by
          obtain ⟨a1, a2⟩ := ih _ _ _ _ ht hg
          have g2 := ty_was ht hg
          obtain ⟨g1, q2, _⟩ := want_g g2
          obtain ⟨_, q0, q1, _, wk⟩ := word_gz g1
          rw [q0]
          simp only [sT] at a2
          refine ⟨Azt.one (by dsimp only; omega) (by dsimp only; omega) a1 (by unfold low; dsimp only; first | ((repeat' split) <;> omega) | (unfold nam at kn; (repeat' split) <;> omega)) (by first | exact Nat.le_refl _ | (dsimp only; omega) | omega) (Nat.le_refl _) (Nat.le_refl _) (Nat.le_refl _) (by dsimp only; omega) (.inr ⟨⟨rfl, fun _ => wk⟩, Nat.le_refl _, by dsimp only; omega⟩), by omega⟩
        split at h
        · injection h with h; subst h
          exact key hr
        · obtain ⟨x, hx, h⟩ := Option.map_eq_some_iff.1 h
          subst h
          obtain ⟨c1, c2⟩ := ih _ _ _ _ hx hr
          have g4 := ty_was hx hr
          obtain ⟨g3, q3, _⟩ := want_g g4
          obtain ⟨d1, d2⟩ := key g3
          simp only [sT] at c2
          exact ⟨Azt.app d1 (c1.mono (by omega) (Nat.le_refl _)) d2 (by dsimp only; omega), by dsimp only; omega⟩
      · injection h with h; subst h; exact ⟨trivial, Nat.le_refl _⟩
    | fnL first =>
      simp only [sT]
      rw [tyM] at h
      split at h
      · obtain ⟨t, ht, h⟩ := Option.bind_eq_some_iff.1 h
        split at h
        · injection h with h; subst h
          obtain ⟨a1, a2⟩ := ih _ _ _ _ ht hr
          simp only [sT] at a2
          exact ⟨a1, by dsimp only; omega⟩
        · obtain ⟨x, hx, h⟩ := Option.map_eq_some_iff.1 h
          subst h
          obtain ⟨c1, c2⟩ := ih _ _ _ _ hx hr
          have g4 := ty_was hx hr
          obtain ⟨g3, q3, _⟩ := want_g g4
          obtain ⟨d1, d2⟩ := ih _ _ _ _ ht g3
          simp only [sT] at c2
          simp only [sT] at d2
          exact ⟨Azt.app d1 (c1.mono (by omega) (Nat.le_refl _)) (by omega) (by dsimp only; omega), by dsimp only; omega⟩
      · injection h with h; subst h; exact ⟨trivial, Nat.le_refl _⟩
theorem typed_azt {f : Nat} {b : Int} {i : Nat} {r : Fo × Nat × Int} (h : typedM l f b i = some r) (hr : r.2.2 < 0) : Azt l r.1 i r.2.1 ∧ i ≤ r.2.1 := by
  unfold typedM at h
  split at h
  · injection h with h; subst h; exact ⟨Azt.zero _ _, Nat.le_refl _⟩
  · obtain ⟨a1, a2⟩ := ty_azt _ _ _ _ _ h hr
    simp only [sT] at a2
    exact ⟨a1.mono (by omega) (Nat.le_refl _), by omega⟩
theorem par_azt : ∀ (f : Nat) (first : Bool) (b : Int) (i : Nat) (r : Fo × Nat × Int), parL l f first b i = some r → r.2.2 < 0 → Azt l r.1 i r.2.1 ∧ i ≤ r.2.1 := by
  intro f
  induction f with
  | zero => intro first b i r h; rw [parL] at h; cases h
  | succ f ih =>
    intro first b i r h hr
    rw [parL] at h
    split at h
    · obtain ⟨t, ht, h⟩ := Option.bind_eq_some_iff.1 h
      have key : t.2.2 < 0 → Azt l (.one { (wordM l b ⟨5, i, 0, e0, 0⟩ i).1 with til := t.2.1 } t.1) i t.2.1 ∧ i ≤ t.2.1 := fun hg => by
        obtain ⟨a1, a2⟩ := typed_azt ht hg
        have g1 := typed_was ht hg
        obtain ⟨_, q0, q1, _, wk⟩ := word_gz g1
        rw [q0]
        exact ⟨Azt.one (by dsimp only; omega) (by dsimp only; omega) a1 (by unfold low; dsimp only; first | ((repeat' split) <;> omega) | (unfold nam at kn; (repeat' split) <;> omega)) (by first | exact Nat.le_refl _ | (dsimp only; omega) | omega) (Nat.le_refl _) (Nat.le_refl _) (Nat.le_refl _) (by dsimp only; omega) (.inr ⟨⟨rfl, fun _ => wk⟩, Nat.le_refl _, by dsimp only; omega⟩), by omega⟩
      split at h
      · injection h with h; subst h; exact key hr
      · obtain ⟨x, hx, h⟩ := Option.map_eq_some_iff.1 h
        subst h
        obtain ⟨c1, c2⟩ := ih _ _ _ _ hx hr
        have g4 := parL_was hx hr
        obtain ⟨g3, q3, _⟩ := want_g g4
        obtain ⟨d1, d2⟩ := key g3
        exact ⟨Azt.app d1 (c1.mono (by omega) (Nat.le_refl _)) d2 (by dsimp only; omega), by dsimp only; omega⟩
    · injection h with h; subst h; exact ⟨trivial, Nat.le_refl _⟩
theorem params_azt {f : Nat} {b : Int} {i : Nat} {r : Fo × Nat × Int} (h : paramsM l f b i = some r) (hr : r.2.2 < 0) : Azt l r.1 i r.2.1 ∧ i < r.2.1 := by
  unfold paramsM at h
  obtain ⟨x, hx, h⟩ := Option.bind_eq_some_iff.1 h
  injection h with h; subst h
  obtain ⟨g2, q2, _⟩ := want_g hr
  obtain ⟨a1, a2⟩ := par_azt _ _ _ _ _ hx g2
  have g1 := parL_was hx g2
  obtain ⟨_, q1, _⟩ := want_g g1
  dsimp only at *
  exact ⟨Azt.one (by dsimp only; omega) (by dsimp only; omega) a1 (by unfold low; dsimp only; first | ((repeat' split) <;> omega) | (unfold nam at kn; (repeat' split) <;> omega)) (by first | exact Nat.le_refl _ | (dsimp only; omega) | omega) (by dsimp only; omega) (Nat.le_refl _) (Nat.le_refl _) (by dsimp only; omega) (.inl ⟨rfl, rfl, by dsimp only [nam]; first | omega | (split <;> omega)⟩), by omega⟩
def Prz (l : List Tok) : XT → Nat → Prop
  | .sumL a, i | .termL a, i | .postL a, i => Azt l a a.from_ i ∧ a.from_ ≤ i
  | _, _ => True
def Poz (l : List Tok) : XT → Nat → Fo → Nat → Prop
  | .sumL a, i, k, j | .termL a, i, k, j | .postL a, i, k, j => Azt l k k.from_ j ∧ k.from_ = a.from_ ∧ i ≤ j
  | .stmts, i, k, j | .args _, i, k, j | .entries _, i, k, j => Azt l k i j ∧ i ≤ j
  | .expr, i, k, j | .sum, i, k, j | .term, i, k, j | .post, i, k, j | .atom, i, k, j => Azt l k i j ∧ i < j ∧ k.from_ = i
  | _, i, k, j => Azt l k i j ∧ i < j
theorem ex_azt : ∀ (f : Nat) (t : XT) (b : Int) (i : Nat) (r : Fo × Nat × Int), exM l f t b i = some r → r.2.2 < 0 → Prz l t i → Poz l t i r.1 r.2.1 := by
  intro f
  induction f with
  | zero => intro t b i r h; rw [exM] at h; cases h
  | succ f ih =>
    intro t b i r h hr hpre
    have hb := exM_was h hr
    cases t with
    | lambda =>
      rw [exM] at h
      obtain ⟨p, h1, h⟩ := Option.bind_eq_some_iff.1 h
      obtain ⟨t, h2, h⟩ := Option.bind_eq_some_iff.1 h
      obtain ⟨k, h3, h⟩ := Option.bind_eq_some_iff.1 h
      injection h with h; subst h
      obtain ⟨a3, q3⟩ := ih _ _ _ _ h3 hr trivial
      have g2 := exM_was h3 hr
      obtain ⟨a2, q2⟩ := typed_azt h2 g2
      have g1 := typed_was h2 g2
      obtain ⟨a1, q1⟩ := params_azt h1 g1
      exact ⟨Azt.app a1 (Azt.app a2 a3 q2 (by dsimp only; omega)) (by omega) (by dsimp only; omega), by dsimp only; omega⟩
    | block =>
      rw [exM] at h
      obtain ⟨x, h1, h⟩ := Option.bind_eq_some_iff.1 h
      injection h with h; subst h
      obtain ⟨g2, q2, _⟩ := want_g hr
      obtain ⟨a1, q1⟩ := ih _ _ _ _ h1 g2 trivial
      have g1 := exM_was h1 g2
      obtain ⟨_, q0, _⟩ := want_g g1
      dsimp only at *
      exact ⟨Azt.one (by dsimp only; omega) (by dsimp only; omega) a1 (by unfold low; dsimp only; first | ((repeat' split) <;> omega) | (unfold nam at kn; (repeat' split) <;> omega)) (by first | exact Nat.le_refl _ | (dsimp only; omega) | omega) (by dsimp only; omega) (Nat.le_refl _) (Nat.le_refl _) (by dsimp only; omega) (.inl ⟨rfl, rfl, by dsimp only [nam]; first | omega | (split <;> omega)⟩), by omega⟩
    | stmts =>
      rw [exM] at h
      split at h
      · obtain ⟨x, h1, h⟩ := Option.bind_eq_some_iff.1 h
        obtain ⟨y, h2, h⟩ := Option.map_eq_some_iff.1 h
        subst h
        obtain ⟨a2, q2⟩ := ih _ _ _ _ h2 hr trivial
        obtain ⟨a1, q1⟩ := ih _ _ _ _ h1 (exM_was h2 hr) trivial
        exact ⟨Azt.app a1 a2 (by omega) q2, by dsimp only; omega⟩
      · injection h with h; subst h; exact ⟨trivial, Nat.le_refl _⟩
    | stmt =>
      by_cases hif : isM l i kIf = true
      · obtain ⟨c, k, o, hc, hk, ho, e⟩ := st_if h rfl hif
        subst e
        have gk : k.2.2 < 0 := by
          by_cases hh : 0 ≤ k.2.2
          · have := other_bad hh ho; dsimp only at hr; omega
          · omega
        have ao : Azt l o.1 k.2.1 o.2.1 ∧ k.2.1 ≤ o.2.1 := by
          unfold otherM at ho
          split at ho
          · obtain ⟨a3, q3⟩ := ih _ _ _ _ ho hr trivial
            exact ⟨a3.mono (by omega) (Nat.le_refl _), by omega⟩
          · injection ho with ho; rw [← ho]; exact ⟨Azt.zero _ _, Nat.le_refl _⟩
        obtain ⟨a2, q2⟩ := ih _ _ _ _ hk gk trivial
        obtain ⟨a1, q1, _⟩ := ih _ _ _ _ hc (exM_was hk gk) trivial
        exact ⟨Azt.one (by dsimp only; omega) (by dsimp only; omega) (Azt.app a1 (Azt.app a2 ao.1 (by omega) ao.2) (by omega) (by omega)) (by unfold low; dsimp only; first | ((repeat' split) <;> omega) | (unfold nam at kn; (repeat' split) <;> omega)) (by first | exact Nat.le_refl _ | (dsimp only; omega) | omega) (Nat.le_refl _) (Nat.le_refl _) (Nat.le_refl _) (by dsimp only; omega) (.inl ⟨rfl, rfl, by dsimp only [nam]; first | omega | (split <;> omega)⟩), by dsimp only; omega⟩
      · by_cases hwh : isM l i kWhile = true
        · obtain ⟨c, k, hc, hk, e⟩ := st_while h rfl hwh
          subst e
          obtain ⟨a2, q2⟩ := ih _ _ _ _ hk hr trivial
          obtain ⟨a1, q1, _⟩ := ih _ _ _ _ hc (exM_was hk hr) trivial
          exact ⟨Azt.one (by dsimp only; omega) (by dsimp only; omega) (Azt.app a1 a2 (by omega) (by omega)) (by unfold low; dsimp only; first | ((repeat' split) <;> omega) | (unfold nam at kn; (repeat' split) <;> omega)) (by first | exact Nat.le_refl _ | (dsimp only; omega) | omega) (Nat.le_refl _) (Nat.le_refl _) (Nat.le_refl _) (by dsimp only; omega) (.inl ⟨rfl, rfl, by dsimp only [nam]; first | omega | (split <;> omega)⟩), by dsimp only; omega⟩
        · by_cases hlet : isM l i kLet = true
          · obtain ⟨t, v, ht, hv, e⟩ := st_let h rfl hlet
            subst e
            obtain ⟨g3, q3, _⟩ := want_g hr
            obtain ⟨a2, q2, _⟩ := ih _ _ _ _ hv g3 trivial
            have g2 := exM_was hv g3
            obtain ⟨g1, q1, _⟩ := want_g g2
            obtain ⟨a1, p1⟩ := typed_azt ht g1
            have g0 := typed_was ht g1
            have e1 : (wordM l b ⟨7, i, 0, e0, 0⟩ (i + 1)).2 = (wordM l b ⟨0, 0, 0, e0, 0⟩ (i + 1)).2 := wordM_snd _ _ _ _
            rw [← e1] at g0 a1 p1
            obtain ⟨_, w0, w1, _, wk⟩ := word_gz g0
            rw [w0]
            dsimp only at *
            exact ⟨Azt.one (by dsimp only; omega) (by dsimp only; omega) (Azt.app a1 (a2.mono (by omega) (Nat.le_refl _)) p1 (by omega)) (by unfold low; dsimp only; first | ((repeat' split) <;> omega) | (unfold nam at kn; (repeat' split) <;> omega)) (by first | exact Nat.le_refl _ | (dsimp only; omega) | omega) (by dsimp only; omega) (Nat.le_refl _) (Nat.le_refl _) (by dsimp only; omega) (.inr ⟨⟨rfl, fun _ => wk⟩, by dsimp only; omega, by dsimp only; omega⟩), by omega⟩
          · have close : ∀ (kd j : Nat), kd ≠ 0 → kd ≠ 2 → ¬ nam kd → i ≤ j → closeM l f kd i (j, b) = some r → Poz l .stmt i r.1 r.2.1 := fun kd j k0 k2 kn hj hc => by
              unfold closeM at hc
              obtain ⟨v, hv, e⟩ := Option.bind_eq_some_iff.1 hc
              injection e with e; subst e
              obtain ⟨g1, q1, _⟩ := want_g hr
              obtain ⟨a1, p1, _⟩ := ih _ _ _ _ hv g1 trivial
              dsimp only at *
              exact ⟨Azt.one k0 k2 a1 (by unfold low; dsimp only; first | ((repeat' split) <;> omega) | (unfold nam at kn; (repeat' split) <;> omega)) (by first | exact Nat.le_refl _ | (dsimp only; omega) | omega) (by dsimp only; omega) (Nat.le_refl _) (Nat.le_refl _) (by dsimp only; omega) (.inl ⟨rfl, rfl, kn⟩), by omega⟩
            by_cases hpr : isM l i kPrint = true
            · exact close 11 (i + 1) (by omega) (by omega) (by unfold nam; omega) (by omega) (st_print h rfl hpr)
            · by_cases hre : isM l i kReturn = true
              · exact close 12 (i + 1) (by omega) (by omega) (by unfold nam; omega) (by omega) (st_return h rfl hre)
              · by_cases hse : kindAt l i = 1 ∧ isM l (i + 1) sEq = true
                · have wk := hse.1
                  obtain ⟨v, hv, e⟩ := st_word h rfl hb hse.1 hse.2
                  subst e
                  obtain ⟨g1, q1, _⟩ := want_g hr
                  obtain ⟨a1, p1, _⟩ := ih _ _ _ _ hv g1 trivial
                  dsimp only at *
                  exact ⟨Azt.one (by dsimp only; omega) (by dsimp only; omega) a1 (by unfold low; dsimp only; first | ((repeat' split) <;> omega) | (unfold nam at kn; (repeat' split) <;> omega)) (by first | exact Nat.le_refl _ | (dsimp only; omega) | omega) (by dsimp only; omega) (Nat.le_refl _) (Nat.le_refl _) (by dsimp only; omega) (.inr ⟨⟨rfl, fun _ => wk⟩, Nat.le_refl _, by dsimp only; omega⟩), by omega⟩
                · exact close 13 i (by omega) (by omega) (by unfold nam; omega) (by omega) (st_do h rfl (by simpa using hlet) (by simpa using hif) (by simpa using hwh) (by simpa using hpr) (by simpa using hre) hse)
    | expr =>
      rw [exM] at h
      obtain ⟨a, h1, h⟩ := Option.bind_eq_some_iff.1 h
      split at h
      · injection h with h; subst h
        have hh := ih _ _ _ _ h1 hr trivial
        exact hh
      · obtain ⟨c, h2, h⟩ := Option.bind_eq_some_iff.1 h
        injection h with h; subst h
        obtain ⟨a2, q2, _⟩ := ih _ _ _ _ h2 hr trivial
        obtain ⟨a1, q1, p1⟩ := ih _ _ _ _ h1 (exM_was h2 hr) trivial
        dsimp only at *
        rw [p1]
        exact ⟨Azt.one (by dsimp only; split <;> omega) (by dsimp only; split <;> omega) (Azt.app a1 (a2.mono (by omega) (Nat.le_refl _)) (by omega) (by omega)) (by unfold low; dsimp only; first | ((repeat' split) <;> omega) | (unfold nam at kn; (repeat' split) <;> omega)) (by first | exact Nat.le_refl _ | (dsimp only; omega) | omega) (Nat.le_refl _) (Nat.le_refl _) (Nat.le_refl _) (by dsimp only; omega) (.inl ⟨rfl, rfl, by dsimp only [nam]; first | omega | (split <;> omega)⟩), by omega, rfl⟩
    | sum =>
      rw [exM] at h
      obtain ⟨a, h1, h⟩ := Option.bind_eq_some_iff.1 h
      obtain ⟨a1, q1, p1⟩ := ih _ _ _ _ h1 (exM_was h hr) trivial
      obtain ⟨a2, q2, p2⟩ := ih _ _ _ _ h hr (show Azt l a.1 a.1.from_ a.2.1 ∧ a.1.from_ ≤ a.2.1 by rw [p1]; exact ⟨a1, by omega⟩)
      rw [q2, p1] at a2
      exact ⟨a2, by omega, by rw [q2, p1]⟩
    | term =>
      rw [exM] at h
      obtain ⟨a, h1, h⟩ := Option.bind_eq_some_iff.1 h
      obtain ⟨a1, q1, p1⟩ := ih _ _ _ _ h1 (exM_was h hr) trivial
      obtain ⟨a2, q2, p2⟩ := ih _ _ _ _ h hr (show Azt l a.1 a.1.from_ a.2.1 ∧ a.1.from_ ≤ a.2.1 by rw [p1]; exact ⟨a1, by omega⟩)
      rw [q2, p1] at a2
      exact ⟨a2, by omega, by rw [q2, p1]⟩
    | post =>
      rw [exM] at h
      obtain ⟨a, h1, h⟩ := Option.bind_eq_some_iff.1 h
      obtain ⟨a1, q1, p1⟩ := ih _ _ _ _ h1 (exM_was h hr) trivial
      obtain ⟨a2, q2, p2⟩ := ih _ _ _ _ h hr (show Azt l a.1 a.1.from_ a.2.1 ∧ a.1.from_ ≤ a.2.1 by rw [p1]; exact ⟨a1, by omega⟩)
      rw [q2, p1] at a2
      exact ⟨a2, by omega, by rw [q2, p1]⟩
    | sumL a =>
      obtain ⟨pa, pf⟩ := hpre
      rw [exM] at h
      split at h
      · obtain ⟨c, h1, h⟩ := Option.bind_eq_some_iff.1 h
        obtain ⟨a1, q1, _⟩ := ih _ _ _ _ h1 (exM_was h hr) trivial
        obtain ⟨a2, q2, p2⟩ := ih _ _ _ _ h hr ⟨Azt.one (by dsimp only; split <;> omega) (by dsimp only; split <;> omega) (Azt.app pa (a1.mono (by omega) (Nat.le_refl _)) pf (by omega)) (by unfold low; dsimp only; first | ((repeat' split) <;> omega) | (unfold nam at kn; (repeat' split) <;> omega)) (by first | exact Nat.le_refl _ | (dsimp only; omega) | omega) (Nat.le_refl _) (Nat.le_refl _) (Nat.le_refl _) (by dsimp only; omega) (.inl ⟨rfl, rfl, by dsimp only [nam]; first | omega | (split <;> omega)⟩), by show a.from_ ≤ _; omega⟩
        exact ⟨a2, q2, by omega⟩
      · injection h with h; subst h; exact ⟨pa, rfl, Nat.le_refl _⟩
    | termL a =>
      obtain ⟨pa, pf⟩ := hpre
      rw [exM] at h
      split at h
      · obtain ⟨c, h1, h⟩ := Option.bind_eq_some_iff.1 h
        obtain ⟨a1, q1, _⟩ := ih _ _ _ _ h1 (exM_was h hr) trivial
        obtain ⟨a2, q2, p2⟩ := ih _ _ _ _ h hr ⟨Azt.one (by dsimp only; omega) (by dsimp only; omega) (Azt.app pa (a1.mono (by omega) (Nat.le_refl _)) pf (by omega)) (by unfold low; dsimp only; first | ((repeat' split) <;> omega) | (unfold nam at kn; (repeat' split) <;> omega)) (by first | exact Nat.le_refl _ | (dsimp only; omega) | omega) (Nat.le_refl _) (Nat.le_refl _) (Nat.le_refl _) (by dsimp only; omega) (.inl ⟨rfl, rfl, by dsimp only [nam]; first | omega | (split <;> omega)⟩), by show a.from_ ≤ _; omega⟩
        exact ⟨a2, q2, by omega⟩
      · injection h with h; subst h; exact ⟨pa, rfl, Nat.le_refl _⟩
    | postL a =>
      obtain ⟨pa, pf⟩ := hpre
      rw [exM] at h
      split at h
      · split at h
        · have g1 := exM_was h hr
          obtain ⟨_, w0, w1, _, wk⟩ := word_gz g1
          dsimp only at h
          rw [w0] at h
          obtain ⟨a2, q2, p2⟩ := ih _ _ _ _ h hr ⟨Azt.one (by dsimp only; omega) (by dsimp only; omega) pa (by unfold low; dsimp only; first | ((repeat' split) <;> omega) | (unfold nam at kn; (repeat' split) <;> omega)) (by first | exact Nat.le_refl _ | (dsimp only; omega) | omega) (by dsimp only; omega) (Nat.le_refl _) (Nat.le_refl _) (by dsimp only; omega) (.inr ⟨⟨rfl, fun _ => wk⟩, by dsimp only; omega, by dsimp only; omega⟩), by show a.from_ ≤ _; omega⟩
          exact ⟨a2, q2, by omega⟩
        · obtain ⟨k, h1, h⟩ := Option.bind_eq_some_iff.1 h
          have g2 := exM_was h hr
          obtain ⟨g1, q3, _⟩ := want_g g2
          obtain ⟨a1, q1⟩ := ih _ _ _ _ h1 g1 trivial
          obtain ⟨a2, q2, p2⟩ := ih _ _ _ _ h hr ⟨Azt.one (by dsimp only; omega) (by dsimp only; omega) (Azt.app pa (a1.mono (by omega) (Nat.le_refl _)) pf (by omega)) (by unfold low; dsimp only; first | ((repeat' split) <;> omega) | (unfold nam at kn; (repeat' split) <;> omega)) (by first | exact Nat.le_refl _ | (dsimp only; omega) | omega) (by dsimp only; omega) (Nat.le_refl _) (Nat.le_refl _) (by dsimp only; omega) (.inl ⟨rfl, rfl, by dsimp only [nam]; first | omega | (split <;> omega)⟩), by show a.from_ ≤ _; omega⟩
          exact ⟨a2, q2, by omega⟩
      · injection h with h; subst h; exact ⟨pa, rfl, Nat.le_refl _⟩
    | args first =>
      rw [exM] at h
      split at h
      · obtain ⟨t, h1, h⟩ := Option.bind_eq_some_iff.1 h
        split at h
        · injection h with h; subst h
          obtain ⟨a1, q1, _⟩ := ih _ _ _ _ h1 hr trivial
          exact ⟨a1, by dsimp only; omega⟩
        · obtain ⟨y, h2, h⟩ := Option.map_eq_some_iff.1 h
          subst h
          obtain ⟨a2, q2⟩ := ih _ _ _ _ h2 hr trivial
          obtain ⟨g1, q3, _⟩ := want_g (exM_was h2 hr)
          obtain ⟨a1, q1, _⟩ := ih _ _ _ _ h1 g1 trivial
          exact ⟨Azt.app a1 (a2.mono (by omega) (Nat.le_refl _)) (by omega) (by dsimp only; omega), by dsimp only; omega⟩
      · injection h with h; subst h; exact ⟨trivial, Nat.le_refl _⟩
    | atom =>
      have leaf : ∀ kd : Nat, kd ≠ 0 → kd ≠ 2 → 20 < kd → (nam kd → kindAt l i = 1) → r = (.one ⟨kd, i, i + 1, textAt l i, i⟩ .nil, i + 1, b) → Poz l .atom i r.1 r.2.1 := fun kd k0 k2 kb wk e => by
        subst e
        exact ⟨Azt.one k0 k2 (show Azt l .nil i i from trivial) (by unfold low; dsimp only; first | ((repeat' split) <;> omega) | (unfold nam at kn; (repeat' split) <;> omega)) (by first | exact Nat.le_refl _ | (dsimp only; omega) | omega) (Nat.le_succ _) (Nat.le_refl _) (Nat.le_refl _) (Nat.le_succ _) (.inr ⟨⟨rfl, wk⟩, Nat.le_refl _, Nat.lt_succ_self _⟩), Nat.lt_succ_self _, rfl⟩
      rw [exM, if_neg (by omega)] at h
      split at h
      · injection h with h; exact leaf 21 (by omega) (by omega) (by omega) (fun h => by unfold nam at h; omega) h.symm
      · split at h
        · injection h with h; exact leaf 22 (by omega) (by omega) (by omega) (fun h => by unfold nam at h; omega) h.symm
        · split at h
          · injection h with h; exact leaf 23 (by omega) (by omega) (by omega) (fun _ => by assumption) h.symm
          · split at h
            · injection h with h; subst h
              exact ⟨Azt.one (by dsimp only; omega) (by dsimp only; omega) (show Azt l .nil i i from trivial) (by unfold low; dsimp only; first | ((repeat' split) <;> omega) | (unfold nam at kn; (repeat' split) <;> omega)) (by first | exact Nat.le_refl _ | (dsimp only; omega) | omega) (Nat.le_succ _) (Nat.le_refl _) (Nat.le_refl _) (Nat.le_succ _) (.inl ⟨rfl, rfl, by dsimp only [nam]; first | omega | (split <;> omega)⟩), Nat.lt_succ_self _, rfl⟩
            · split at h
              · obtain ⟨x, h1, h⟩ := Option.bind_eq_some_iff.1 h
                injection h with h; subst h
                obtain ⟨g1, q1, _⟩ := want_g hr
                obtain ⟨a1, p1, _⟩ := ih _ _ _ _ h1 g1 trivial
                dsimp only at *
                exact ⟨Azt.one (by dsimp only; omega) (by dsimp only; omega) a1 (by unfold low; dsimp only; first | ((repeat' split) <;> omega) | (unfold nam at kn; (repeat' split) <;> omega)) (by first | exact Nat.le_refl _ | (dsimp only; omega) | omega) (by dsimp only; omega) (Nat.le_refl _) (Nat.le_refl _) (by dsimp only; omega) (.inl ⟨rfl, rfl, by dsimp only [nam]; first | omega | (split <;> omega)⟩), by omega, rfl⟩
              · split at h
                · obtain ⟨x, h1, h⟩ := Option.bind_eq_some_iff.1 h
                  injection h with h; subst h
                  obtain ⟨g1, q1, _⟩ := want_g hr
                  obtain ⟨a1, p1⟩ := ih _ _ _ _ h1 g1 trivial
                  dsimp only at *
                  exact ⟨Azt.one (by dsimp only; omega) (by dsimp only; omega) a1 (by unfold low; dsimp only; first | ((repeat' split) <;> omega) | (unfold nam at kn; (repeat' split) <;> omega)) (by first | exact Nat.le_refl _ | (dsimp only; omega) | omega) (by dsimp only; omega) (Nat.le_refl _) (Nat.le_refl _) (by dsimp only; omega) (.inl ⟨rfl, rfl, by dsimp only [nam]; first | omega | (split <;> omega)⟩), by omega, rfl⟩
                · obtain ⟨x, h1, h⟩ := Option.bind_eq_some_iff.1 h
                  injection h with h; subst h
                  obtain ⟨a1, p1⟩ := ih _ _ _ _ h1 hr trivial
                  obtain ⟨_, q1, _⟩ := want_g (exM_was h1 hr)
                  dsimp only at *
                  exact ⟨Azt.one (by dsimp only; omega) (by dsimp only; omega) a1 (by unfold low; dsimp only; first | ((repeat' split) <;> omega) | (unfold nam at kn; (repeat' split) <;> omega)) (by first | exact Nat.le_refl _ | (dsimp only; omega) | omega) (Nat.le_refl _) (Nat.le_refl _) (Nat.le_refl _) (by dsimp only; omega) (.inl ⟨rfl, rfl, by dsimp only [nam]; first | omega | (split <;> omega)⟩), by omega, rfl⟩
    | entries first =>
      rw [exM] at h
      split at h
      · obtain ⟨t, h1, h⟩ := Option.bind_eq_some_iff.1 h
        have key : t.2.2 < 0 → Azt l (.one { (wordM l b ⟨27, i, 0, e0, 0⟩ i).1 with til := t.2.1 } t.1) i t.2.1 ∧ i ≤ t.2.1 := fun hg => by
          obtain ⟨a1, a2, _⟩ := ih _ _ _ _ h1 hg trivial
          obtain ⟨g1, q2, _⟩ := want_g (exM_was h1 hg)
          obtain ⟨_, q0, q1, _, wk⟩ := word_gz g1
          rw [q0]
          exact ⟨Azt.one (by dsimp only; omega) (by dsimp only; omega) a1 (by unfold low; dsimp only; first | ((repeat' split) <;> omega) | (unfold nam at kn; (repeat' split) <;> omega)) (by first | exact Nat.le_refl _ | (dsimp only; omega) | omega) (Nat.le_refl _) (Nat.le_refl _) (Nat.le_refl _) (by dsimp only; omega) (.inr ⟨⟨rfl, fun _ => wk⟩, Nat.le_refl _, by dsimp only; omega⟩), by omega⟩
        split at h
        · injection h with h; subst h; exact key hr
        · obtain ⟨y, h2, h⟩ := Option.map_eq_some_iff.1 h
          subst h
          obtain ⟨a2, q2⟩ := ih _ _ _ _ h2 hr trivial
          obtain ⟨g1, q3, _⟩ := want_g (exM_was h2 hr)
          obtain ⟨a1, q1⟩ := key g1
          exact ⟨Azt.app a1 (a2.mono (by omega) (Nat.le_refl _)) q1 (by dsimp only; omega), by dsimp only; omega⟩
      · injection h with h; subst h; exact ⟨trivial, Nat.le_refl _⟩
theorem use_azt {b : Int} {i : Nat} (hr : (useM l b i).2.2 < 0) : Azt l (useM l b i).1 i (useM l b i).2.1 ∧ i ≤ (useM l b i).2.1 := by
  unfold useM at hr ⊢
  dsimp only at *
  obtain ⟨g3, q3, _⟩ := want_g hr
  obtain ⟨g2, w2, q2, _, wk2⟩ := word_gz g3
  obtain ⟨g1, q1, _⟩ := want_g g2
  obtain ⟨_, w0, q0, _, wk⟩ := word_gz g1
  rw [w2, w0]
  refine ⟨⟨?_, fun h => (by cases h), fun _ => ⟨rfl, rfl, rfl⟩, fun _ h => absurd rfl h, trivial⟩, by omega⟩
  unfold nodeOZ
  dsimp only
  rw [if_neg (by omega)]
  exact ⟨Nat.le_refl _, Nat.le_refl _, by omega, .inr ⟨⟨rfl, fun _ => wk2⟩, by omega, by omega⟩⟩
theorem def_azt {f : Nat} {b : Int} {i : Nat} {r : Fo × Nat × Int} (h : defM l f b i = some r) (hr : r.2.2 < 0) : Azt l r.1 i r.2.1 ∧ i ≤ r.2.1 := by
  unfold defM at h
  obtain ⟨k, h1, h⟩ := Option.bind_eq_some_iff.1 h
  injection h with h; subst h
  obtain ⟨a1, p1⟩ := ex_azt _ _ _ _ _ h1 hr trivial
  obtain ⟨g1, w0, q0, _, wk⟩ := word_gz (exM_was h1 hr)
  obtain ⟨_, q1, _⟩ := want_g g1
  dsimp only at *
  rw [w0]
  exact ⟨Azt.one (by dsimp only; omega) (by dsimp only; omega) a1 (by unfold low; dsimp only; first | ((repeat' split) <;> omega) | (unfold nam at kn; (repeat' split) <;> omega)) (by first | exact Nat.le_refl _ | (dsimp only; omega) | omega) (Nat.le_refl _) (Nat.le_refl _) (Nat.le_refl _) (by dsimp only; omega) (.inr ⟨⟨rfl, fun _ => wk⟩, by dsimp only; omega, by dsimp only; omega⟩), by omega⟩
theorem items_azt : ∀ (f : Nat) (b : Int) (i : Nat) (r : Fo × Nat × Int), itemsM l f b i = some r → r.2.2 < 0 → Azt l r.1 i r.2.1 ∧ i ≤ r.2.1 ∧ kindAt l r.2.1 = 0 := by
  intro f
  induction f with
  | zero => intro b i r h; rw [itemsM] at h; cases h
  | succ f ih =>
    intro b i r h hr
    have hb : b < 0 := by
      by_cases hh : 0 ≤ b
      · have := items_bad hh h; omega
      · omega
    have was : ∀ {g : Nat} {c : Int} {j : Nat} {y : Fo × Nat × Int}, itemsM l g c j = some y → y.2.2 < 0 → c < 0 := fun hy hg => by
      rename_i c _ _
      by_cases hh : 0 ≤ c
      · have := items_bad hh hy; omega
      · omega
    rw [itemsM] at h
    split at h
    · split at h
      · obtain ⟨x, h1, h⟩ := Option.map_eq_some_iff.1 h
        subst h
        obtain ⟨a2, q2, z2⟩ := ih _ _ _ h1 hr
        obtain ⟨a1, q1⟩ := use_azt (was h1 hr)
        exact ⟨Azt.app a1 a2 q1 q2, by dsimp only; omega, z2⟩
      · obtain ⟨t, h0, h⟩ := Option.bind_eq_some_iff.1 h
        obtain ⟨x, h1, h⟩ := Option.map_eq_some_iff.1 h
        subst h
        obtain ⟨a2, q2, z2⟩ := ih _ _ _ h1 hr
        obtain ⟨a1, q1⟩ := def_azt h0 (was h1 hr)
        exact ⟨Azt.app a1 a2 q1 q2, by dsimp only; omega, z2⟩
    · rename_i hc
      injection h with h; subst h
      refine ⟨trivial, Nat.le_refl _, ?_⟩
      dsimp only
      by_cases hk : kindAt l i = 0
      · exact hk
      · exact absurd ⟨hb, hk⟩ hc
end Ps
end Go.Proofs.Ytnefnnoleeeedaa
namespace Go.Proofs.Ytnefnnoleeeedaa
namespace Ps
open Pg
section
variable (T : Nat → Bool) (nm : ByteArray)
def renH (h : Hd) : Hd := if T h.at_ = true then { h with word := nm } else h
def ren : Fo → Fo
  | .nil => .nil
  | .cons h k r => .cons (renH T nm h) (ren k) (ren r)
def RR (r : Fo × Nat × Int) : Fo × Nat × Int := (ren T nm r.1, r.2)
def renX : XT → XT
  | .sumL a => .sumL (ren T nm a)
  | .termL a => .termL (ren T nm a)
  | .postL a => .postL (ren T nm a)
  | t => t
def Rel (x y : Res) : Prop := y = x.map (RR T nm)
structure RenL (l l' : List Tok) : Prop where
  hk : kindAt l' = kindAt l
  hm : isM l' = isM l
  ht : ∀ i, textAt l' i = if T i = true then nm else textAt l i
  h0 : T 0 = false
end
variable {T : Nat → Bool} {nm : ByteArray} {l l' : List Tok}
theorem ren_from : ∀ a : Fo, (ren T nm a).from_ = a.from_
  | .nil => rfl
  | .cons h k r => by unfold ren Fo.from_ renH; dsimp only; split <;> rfl
theorem ren_app : ∀ a b : Fo, ren T nm (a.app b) = (ren T nm a).app (ren T nm b)
  | .nil, b => rfl
  | .cons h k r, b => by rw [Fo.app, ren, ren, Fo.app, ren_app r b]
theorem ren_one (h : Hd) (k : Fo) : ren T nm (.one h k) = .one (renH T nm h) (ren T nm k) := rfl
theorem renH_zero (h0 : T 0 = false) (k a c : Nat) (w : ByteArray) : renH T nm ⟨k, a, c, w, 0⟩ = ⟨k, a, c, w, 0⟩ := by unfold renH; rw [if_neg (by rw [h0]; simp)]
theorem ren_zero (h0 : T 0 = false) : ren T nm .zero = .zero := by unfold Fo.zero; rw [ren_one, renH_zero h0]; rfl
theorem renH_til (h : Hd) (t : Nat) : renH T nm { h with til := t } = { renH T nm h with til := t } := by unfold renH; dsimp only; split <;> rfl
theorem Rel.bind {x y : Res} {f g : Fo × Nat × Int → Res} (h : Rel T nm x y) (k : ∀ a, Rel T nm (f a) (g (RR T nm a))) : Rel T nm (x.bind f) (y.bind g) := by
  unfold Rel at h
  subst h
  cases x with
  | none => rfl
  | some a => exact k a
theorem Rel.ite {c : Prop} [Decidable c] {x y x' y' : Res} (h1 : Rel T nm x y) (h2 : Rel T nm x' y') : Rel T nm (if c then x else x') (if c then y else y') := by
  split
  · exact h1
  · exact h2
theorem Rel.pre {x y : Res} {k : Fo} (h : Rel T nm x y) : Rel T nm (x.pre k) (y.pre (ren T nm k)) := by
  unfold Rel at h
  subst h
  cases x with
  | none => rfl
  | some a => show some _ = some _; simp [RR, ren_app]
theorem Rel.none : Rel T nm none none := rfl
theorem Rel.some {a b : Fo × Nat × Int} (h : b = RR T nm a) : Rel T nm (some a) (some b) := by rw [h]; rfl
theorem want_eq (H : RenL T nm l l') : wantM l' = wantM l := by funext b i x; unfold wantM; rw [H.hm]
theorem word_eq (H : RenL T nm l l') (b : Int) (k a c : Nat) (i : Nat) : wordM l' b ⟨k, a, c, e0, 0⟩ i = (renH T nm (wordM l b ⟨k, a, c, e0, 0⟩ i).1, (wordM l b ⟨k, a, c, e0, 0⟩ i).2) := by
  unfold wordM
  rw [H.hk, H.ht]
  split
  · rw [renH_zero H.h0]
  · split
    · unfold renH
      dsimp only
      by_cases c : T i = true
      · rw [if_pos c, if_pos c]
      · rw [if_neg c, if_neg c]
    · rw [renH_zero H.h0]
theorem leaf_eq (H : RenL T nm l l') (k i : Nat) : (⟨k, i, i + 1, textAt l' i, i⟩ : Hd) = renH T nm ⟨k, i, i + 1, textAt l i, i⟩ := by
  rw [H.ht]
  unfold renH
  dsimp only
  split <;> rfl
theorem ty_rel (H : RenL T nm l l') : ∀ (f : Nat) (t : TT) (b : Int) (i : Nat), Rel T nm (tyM l f t b i) (tyM l' f t b i) := by
  intro f
  induction f with
  | zero => intro t b i; rw [tyM, tyM]; exact Rel.none
  | succ f ih =>
    intro t b i
    have e := @renH_zero T nm H.h0
    cases t with
    | kind =>
      rw [tyM, tyM]
      simp only [H.hm, want_eq H]
      refine Rel.ite (Rel.some ?_) (Rel.ite (Rel.some ?_) (Rel.ite (Rel.some ?_) (Rel.ite (Rel.some ?_) (Rel.ite (Rel.bind (ih _ _ _) fun a => Rel.some ?_) (Rel.bind (ih _ _ _) fun a => Rel.bind (ih _ _ _) fun c => Rel.some ?_)))))
      all_goals simp only [RR, ren_one, ren_app, ren_zero H.h0, e, ren]
    | recL first =>
      rw [tyM, tyM]
      simp only [H.hm, want_eq H, word_eq H]
      refine Rel.ite (Rel.bind (ih _ _ _) fun a => Rel.ite (Rel.some ?_) ?_) (Rel.some ?_)
      · simp only [RR, ren_one, renH_til]
      · have := Rel.pre (k := .one { (wordM l b ⟨33, i, 0, e0, 0⟩ i).1 with til := a.2.1 } a.1) (ih (.recL false) (wantM l a.2.2 a.2.1 sCom).2 (wantM l a.2.2 a.2.1 sCom).1)
        rw [ren_one, renH_til] at this
        exact this
      · simp only [RR, ren]
    | fnL first =>
      rw [tyM, tyM]
      simp only [H.hm, want_eq H]
      refine Rel.ite (Rel.bind (ih _ _ _) fun a => Rel.ite (Rel.some rfl) (Rel.pre (ih _ _ _))) (Rel.some ?_)
      simp only [RR, ren]
theorem typed_rel (H : RenL T nm l l') (f : Nat) (b : Int) (i : Nat) : Rel T nm (typedM l f b i) (typedM l' f b i) := by
  unfold typedM
  rw [H.hm]
  exact Rel.ite (Rel.some (by simp only [RR, ren_zero H.h0])) (ty_rel H _ _ _ _)
theorem par_rel (H : RenL T nm l l') : ∀ (f : Nat) (first : Bool) (b : Int) (i : Nat), Rel T nm (parL l f first b i) (parL l' f first b i) := by
  intro f
  induction f with
  | zero => intro t b i; rw [parL, parL]; exact Rel.none
  | succ f ih =>
    intro first b i
    rw [parL, parL]
    simp only [H.hm, want_eq H, word_eq H]
    refine Rel.ite (Rel.bind (typed_rel H _ _ _) fun a => Rel.ite (Rel.some ?_) ?_) (Rel.some ?_)
    · simp only [RR, ren_one, renH_til]
    · have := Rel.pre (k := .one { (wordM l b ⟨5, i, 0, e0, 0⟩ i).1 with til := a.2.1 } a.1) (ih false (wantM l a.2.2 a.2.1 sCom).2 (wantM l a.2.2 a.2.1 sCom).1)
      rw [ren_one, renH_til] at this
      exact this
    · simp only [RR, ren]
theorem params_rel (H : RenL T nm l l') (f : Nat) (b : Int) (i : Nat) : Rel T nm (paramsM l f b i) (paramsM l' f b i) := by
  unfold paramsM
  rw [want_eq H]
  exact Rel.bind (par_rel H _ _ _ _) fun a => Rel.some (by simp only [RR, ren_one, renH_zero H.h0])
theorem ex_rel (H : RenL T nm l l') : ∀ (f : Nat) (t : XT) (b : Int) (i : Nat), Rel T nm (exM l f t b i) (exM l' f (renX T nm t) b i) := by
  intro f
  induction f with
  | zero => intro t b i; rw [exM, exM]; exact Rel.none
  | succ f ih =>
    intro t b i
    have e := @renH_zero T nm H.h0
    cases t with
    | lambda =>
      rw [renX, exM, exM]
      · exact Rel.bind (params_rel H _ _ _) fun a => Rel.bind (typed_rel H _ _ _) fun c => Rel.bind (ih .block _ _) fun d => Rel.some (by simp only [RR, ren_app])
      all_goals (intros; simp_all)
    | block =>
      rw [renX, exM, exM]
      · simp only [want_eq H]
        exact Rel.bind (ih .stmts _ _) fun d => Rel.some (by simp only [RR, ren_one, e])
      all_goals (intros; simp_all)
    | stmts =>
      rw [renX, exM, exM]
      · simp only [H.hm]
        exact Rel.ite (Rel.bind (ih .stmt _ _) fun a => Rel.pre (ih .stmts _ _)) (Rel.some (by simp only [RR, ren]))
      all_goals (intros; simp_all)
    | stmt =>
      rw [renX, exM, exM]
      · simp only [H.hm, H.hk, want_eq H, word_eq H]
        refine Rel.ite (Rel.bind (ih .expr _ _) fun a => Rel.bind (ih .block _ _) fun c => Rel.ite (Rel.bind (ih .block _ _) fun d => Rel.some ?_) (Rel.some ?_)) (Rel.ite (Rel.bind (ih .expr _ _) fun a => Rel.bind (ih .block _ _) fun c => Rel.some ?_) (Rel.ite (Rel.bind (typed_rel H _ _ _) fun a => Rel.bind (ih .expr _ _) fun c => Rel.some ?_) ?_))
        · simp only [RR, ren_one, ren_app, e]
        · simp only [RR, ren_one, ren_app, e, ren_zero H.h0]
        · simp only [RR, ren_one, ren_app, e]
        · simp only [RR, ren_one, ren_app, renH_til]
        · by_cases c1 : isM l i kPrint = true
          · simp only [if_pos c1]
            exact Rel.bind (ih .expr _ _) fun c => Rel.some (by simp only [RR, ren_one, e])
          · simp only [if_neg c1]
            by_cases c2 : isM l i kReturn = true
            · simp only [if_pos c2]
              exact Rel.bind (ih .expr _ _) fun c => Rel.some (by simp only [RR, ren_one, e])
            · simp only [if_neg c2]
              by_cases c3 : kindAt l i = 1 ∧ isM l (i + 1) sEq = true
              · simp only [if_pos c3]
                exact Rel.bind (ih .expr _ _) fun c => Rel.some (by simp only [RR, ren_one, renH_til])
              · simp only [if_neg c3]
                exact Rel.bind (ih .expr _ _) fun c => Rel.some (by simp only [RR, ren_one, e])
      all_goals (intros; simp_all)
    | expr =>
      rw [renX, exM, exM]
      · simp only [H.hm]
        exact Rel.bind (ih .sum _ _) fun a => Rel.ite (Rel.some rfl) (Rel.bind (ih .sum _ _) fun c => Rel.some (by simp only [RR, ren_one, ren_app, e, ren_from]; first | rfl | congr))
      all_goals (intros; simp_all)
    | sum =>
      rw [renX, exM, exM]
      · exact Rel.bind (ih .term _ _) fun a => ih (.sumL a.1) _ _
      all_goals (intros; simp_all)
    | sumL a =>
      rw [renX, exM, exM]
      simp only [H.hm]
      refine Rel.ite (Rel.bind (ih .term _ _) fun c => ?_) (Rel.some (by simp only [RR]))
      have := ih (.sumL (.one ⟨if isM l i sMinus = true then 17 else 16, a.from_, c.2.1, e0, 0⟩ (a.app c.1))) c.2.2 c.2.1
      rw [renX, ren_one, ren_app, e] at this
      simp only [RR, ren_from]
      exact this
    | term =>
      rw [renX, exM, exM]
      · exact Rel.bind (ih .post _ _) fun a => ih (.termL a.1) _ _
      all_goals (intros; simp_all)
    | termL a =>
      rw [renX, exM, exM]
      simp only [H.hm]
      refine Rel.ite (Rel.bind (ih .post _ _) fun c => ?_) (Rel.some (by simp only [RR]))
      have := ih (.termL (.one ⟨18, a.from_, c.2.1, e0, 0⟩ (a.app c.1))) c.2.2 c.2.1
      rw [renX, ren_one, ren_app, e] at this
      simp only [RR, ren_from]
      exact this
    | post =>
      rw [renX, exM, exM]
      · exact Rel.bind (ih .atom _ _) fun a => ih (.postL a.1) _ _
      all_goals (intros; simp_all)
    | postL a =>
      rw [renX, exM, exM]
      simp only [H.hm, want_eq H, word_eq H, ren_from]
      refine Rel.ite (Rel.ite ?_ (Rel.bind (ih (.args true) _ _) fun c => ?_)) (Rel.some (by simp only [RR]))
      · have := ih (.postL (.one { (wordM l b ⟨19, a.from_, 0, e0, 0⟩ (i + 1)).1 with til := (wordM l b ⟨19, a.from_, 0, e0, 0⟩ (i + 1)).2.1 } a)) (wordM l b ⟨19, a.from_, 0, e0, 0⟩ (i + 1)).2.2 (wordM l b ⟨19, a.from_, 0, e0, 0⟩ (i + 1)).2.1
        rw [renX, ren_one, renH_til] at this
        exact this
      · have := ih (.postL (.one ⟨20, a.from_, (wantM l c.2.2 c.2.1 sParS).1, e0, 0⟩ (a.app c.1))) (wantM l c.2.2 c.2.1 sParS).2 (wantM l c.2.2 c.2.1 sParS).1
        rw [renX, ren_one, ren_app, e] at this
        exact this
    | args first =>
      rw [renX, exM, exM]
      · simp only [H.hm, want_eq H]
        exact Rel.ite (Rel.bind (ih .expr _ _) fun a => Rel.ite (Rel.some rfl) (Rel.pre (ih (.args false) _ _))) (Rel.some (by simp only [RR, ren]))
      all_goals (intros; simp_all)
    | atom =>
      rw [renX, exM, exM]
      · simp only [H.hm, H.hk, want_eq H, leaf_eq H]
        refine Rel.ite (Rel.some ?_) (Rel.ite (Rel.some ?_) (Rel.ite (Rel.some ?_) (Rel.ite (Rel.some ?_) (Rel.ite (Rel.some ?_) (Rel.ite (Rel.bind (ih .expr _ _) fun a => Rel.some ?_) (Rel.ite (Rel.bind (ih (.entries true) _ _) fun a => Rel.some ?_) (Rel.bind (ih .lambda _ _) fun a => Rel.some ?_)))))))
        all_goals simp only [RR, ren_one, ren_zero H.h0, e, ren]
      all_goals (intros; simp_all)
    | entries first =>
      rw [renX, exM, exM]
      · simp only [H.hm, want_eq H, word_eq H]
        refine Rel.ite (Rel.bind (ih .expr _ _) fun a => Rel.ite (Rel.some ?_) ?_) (Rel.some ?_)
        · simp only [RR, ren_one, renH_til]
        · have := Rel.pre (k := .one { (wordM l b ⟨27, i, 0, e0, 0⟩ i).1 with til := a.2.1 } a.1) (ih (.entries false) (wantM l a.2.2 a.2.1 sCom).2 (wantM l a.2.2 a.2.1 sCom).1)
          rw [ren_one, renH_til] at this
          exact this
        · simp only [RR, ren]
      all_goals (intros; simp_all)
theorem use_rel (H : RenL T nm l l') (b : Int) (i : Nat) : useM l' b i = RR T nm (useM l b i) := by
  unfold useM
  simp only [want_eq H, word_eq H]
  simp only [RR, ren_one, renH_til, ren]
theorem def_rel (H : RenL T nm l l') (f : Nat) (b : Int) (i : Nat) : Rel T nm (defM l f b i) (defM l' f b i) := by
  unfold defM
  simp only [want_eq H, word_eq H]
  exact Rel.bind (ex_rel H _ .lambda _ _) fun a => Rel.some (by simp only [RR, ren_one, renH_til])
theorem items_rel (H : RenL T nm l l') : ∀ (f : Nat) (b : Int) (i : Nat), Rel T nm (itemsM l f b i) (itemsM l' f b i) := by
  intro f
  induction f with
  | zero => intro b i; rw [itemsM, itemsM]; exact Rel.none
  | succ f ih =>
    intro b i
    rw [itemsM, itemsM]
    simp only [H.hm, H.hk, use_rel H]
    refine Rel.ite (Rel.ite ?_ (Rel.bind (def_rel H _ _ _) fun a => Rel.pre (ih _ _))) (Rel.some (by simp only [RR, ren]))
    exact Rel.pre (ih _ _)
end Ps
end Go.Proofs.Ytnefnnoleeeedaa
namespace Go.Proofs.Ytnefnnoleeeedaa
open Go.RowKit
namespace Ps
set_option maxHeartbeats 2000000 in
theorem is_any (X : Cx) (b : Int) (i : Nat) (x : ByteArray) (w : World) (hS : St X w b) (hi : i < X.l.length) :
    Calls Try.prog 53 #[X.p, .int .i64 i, .string x] w fun e w' => e = .returned (.bool (isM X.l i x.data.toList)) ∧ Below w.heap.size w w' := by
  have hrb := hS.row.lt
  have hz : isM X.l i x.data.toList = ((X.l[i].kind == 2 || X.l[i].kind == 5) && (X.l[i].text.data.toList == x.data.toList)) := by
    unfold isM; rw [List.getElem?_eq_getElem hi]
  obtain ⟨z, hzz⟩ : ∃ z, z = isM X.l i x.data.toList := ⟨_, rfl⟩
  rw [← hzz] at hz ⊢
  obtain ⟨g, eg, lg, hc⟩ := hS.toks
  obtain ⟨c0, c1, c2, c3⟩ := hc i hi
  have rr := hS.row.cell
  have hcap := hS.cap
  obtain ⟨rbk, A, l, c⟩ := X
  dsimp only at *
  subst eg
  generalize l[i] = t at *
  obtain ⟨kd, a, ld, tx⟩ := t
  dsimp only at *
  have hlg : g < w.heap.size := by omega
  have HZ := Lib.hid hz
  have hil : (i : Int) < (l.length : Int) := by omega
  clear hzz hc hS hz
  by_cases h2 : kd = 2
  · subst h2
    go_enter Try.func53, Try.ntmps53
    go_wp2_with fail
    go_ret
    exact ⟨rb (by rw [HZ.out]; simp [ByteArray.toList_eq]), bel1 _ _⟩
  · by_cases h5 : kd = 5
    · subst h5
      go_enter Try.func53, Try.ntmps53
      go_wp2_with fail
      go_ret
      exact ⟨rb (by rw [HZ.out]; simp [ByteArray.toList_eq]), bel1 _ _⟩
    · have d1 : ((kd : Int) == 2) = false := by rw [beq_eq_false_iff_ne]; omega
      have d2 : ((kd : Int) == 5) = false := by rw [beq_eq_false_iff_ne]; omega
      have HZ0 : Hid (z = false) := by
        unfold Hid; rw [HZ.out]; simp [h2, h5]
      clear HZ h2 h5
      go_enter Try.func53, Try.ntmps53
      go_wp2_with fail
      go_ret
      exact ⟨rb (by rw [HZ0.out]; try simp), bel1 _ _⟩
def AtP (X : Cx) (w : World) (r : Nat × Int) (e : Ending) (w' : World) : Prop :=
  e = .returned (.int .i64 r.1) ∧ St X w' r.2 ∧ Fr X.rb w.heap.size w w' ∧ r.1 < X.l.length
set_option maxHeartbeats 2000000 in
theorem want_any (X : Cx) (b : Int) (i : Nat) (x : ByteArray) (w : World) (hS : St X w b) (hi : i < X.l.length) :
    Calls Try.prog 83 #[X.p, .int .i64 i, .string x] w fun e w' => AtP X w (wantM X.l b i x.data.toList) e w' := by
  have HS := Lib.hid hS
  have hlt := wantM_lt hS.wf (b := b) (x := x.data.toList) hi
  have hle := hS.wf.le
  have rr := hS.row.cell
  have rf := hS.row.thaw
  have c := is_any X b i x w hS hi
  by_cases hb : 0 ≤ b
  · have hb1 : ¬ b < 0 := by omega
    have hb2 : b ≥ 0 := hb
    have hw : wantM X.l b i x.data.toList = (i, b) := by unfold wantM; rw [if_pos hb]
    rw [hw]
    clear hS hb c hlt hw
    go_enter Try.func83, Try.ntmps83
    go_wp2_with fail
    go_ret
    exact ⟨rfl, HS.out, Fr.refl _ _ _, hi⟩
  · have hb1 : b < 0 := by omega
    have hb2 : ¬ b ≥ 0 := by omega
    cases hz : isM X.l i x.data.toList
    · have hw : wantM X.l b i x.data.toList = (i, (i : Int)) := by unfold wantM; rw [if_neg hb, hz, if_neg (by simp)]
      rw [hw]
      rw [hz] at c
      have C := Lib.hid c
      clear hS hb c hlt hw hz
      go_enter Try.func83, Try.ntmps83
      go_wp2_with fail
      refine C.out.mono ?_
      rintro e w1 ⟨rfl, hbl⟩
      have HS1 := Lib.hid (HS.out.below hbl)
      have HF := Lib.hid (Fr.of (rb := X.rb) hbl)
      have rr1 := HS1.out.row.cell
      have rf1 := HS1.out.row.thaw
      have hn : (i : Int) ≥ 0 := by omega
      clear rr rf hbl hb1 hb2
      go_wp2_with fail
      go_ret
      exact ⟨rfl, HS1.out.stop _ (by omega), HF.out.put 1 _, hi⟩
    · have hw : wantM X.l b i x.data.toList = (i + 1, b) := by unfold wantM; rw [if_neg hb, hz, if_pos rfl]
      rw [hw] at hlt ⊢
      rw [hz] at c
      have C := Lib.hid c
      have HL := Lib.hid hlt
      clear hS hb c hlt hw hz
      go_enter Try.func83, Try.ntmps83
      go_wp2_with fail
      refine C.out.mono ?_
      rintro e w1 ⟨rfl, hbl⟩
      have HS1 := Lib.hid (HS.out.below hbl)
      have HF := Lib.hid (Fr.of (rb := X.rb) hbl)
      have rr1 := HS1.out.row.cell
      have rf1 := HS1.out.row.thaw
      have e1 : IntKind.i64.wrap ((i : Int) + 1) = (i : Int) + 1 := by rw [IntKind.wrap_i64]; omega
      clear rr rf hbl
      go_wp2_with fail
      go_ret
      exact ⟨ri (by simp), HS1.out, HF.out, HL.out⟩
abbrev nv (h : Hd) (A : Option Addr) (n cap : Nat) : Value := .agg #[.int .i64 h.kind, .int .i64 h.fro, .int .i64 h.til, .string h.word, .int .i64 h.at_, .slice A n cap]
set_option maxHeartbeats 2000000 in
theorem ended_any (h : Hd) (A0 : Option Addr) (n0 c0 : Nat) (tl_ : Nat) (A : Option Addr) (n c : Nat) (w : World) :
    Calls Try.prog 56 #[nv h A0 n0 c0, .int .i64 tl_, .slice A n c] w fun e w' => e = .returned (nv { h with til := tl_ } A n c) ∧ Below w.heap.size w w' := by
  obtain ⟨kd, fr, t0, wd, at0⟩ := h
  go_enter Try.func56, Try.ntmps56
  go_wp2
  refine bodyPost_ret ?_ rfl ⟨rfl, ?_⟩
  · simp [results, Try.results56, go_sem]
  · exact (bel1 _ _).alloc (by simp) _
def WordP (X : Cx) (w : World) (r : Hd × Nat × Int) (A : Option Addr) (n c : Nat) (e : Ending) (w' : World) : Prop :=
  e = .returned (.tuple #[nv r.1 A n c, .int .i64 r.2.1]) ∧ St X w' r.2.2 ∧ Fr X.rb w.heap.size w w' ∧ r.2.1 < X.l.length
set_option maxHeartbeats 4000000 in
theorem word_any (X : Cx) (b : Int) (h : Hd) (A : Option Addr) (n c : Nat) (i : Nat) (w : World) (hS : St X w b) (hi : i < X.l.length) :
    Calls Try.prog 82 #[X.p, nv h A n c, .int .i64 i] w fun e w' => WordP X w (wordM X.l b h i) A n c e w' := by
  have HS := Lib.hid hS
  have hrb := hS.row.lt
  have hlt := wordM_lt hS.wf (b := b) (hd := h) hi
  have hle := hS.wf.le
  have rr := hS.row.cell
  have rf := hS.row.thaw
  obtain ⟨kd, fr, t0, wd, at0⟩ := h
  have RA := Lib.hid (RowB.new w 25 #[.int .i64 kd, .int .i64 fr, .int .i64 t0, .string wd, .int .i64 at0, .slice A n c])
  have S1 := Lib.hid ((hS.alloc (.cells #[.int .i64 kd, .int .i64 fr, .int .i64 t0, .string wd, .int .i64 at0, .slice A n c] 25)).alloc (.cells #[.int .i64 0, .int .i64 0, .int .i64 0, .string ⟨#[]⟩, .int .i64 0, .slice none 0 0] 25))
  by_cases hb : 0 ≤ b
  · have hb1 : ¬ b < 0 := by omega
    have hb2 : b ≥ 0 := hb
    have hw : wordM X.l b ⟨kd, fr, t0, wd, at0⟩ i = (⟨kd, fr, t0, wd, at0⟩, i, b) := by unfold wordM; rw [if_pos hb]
    rw [hw]
    clear hS hb hlt hw
    go_enter Try.func82, Try.ntmps82
    go_wp2
    refine bodyPost_ret ?_ rfl ⟨rfl, ?_, ?_, hi⟩
    · simp [results, Try.results82, go_sem]
    · exact (HS.out.alloc _).alloc _
    · exact Fr.of ((bel1 _ _).alloc (by simp) _)
  · have hb1 : b < 0 := by omega
    have hb2 : ¬ b ≥ 0 := by omega
    obtain ⟨g, eg, lg, hc⟩ := hS.toks
    obtain ⟨c0, c1, c2, c3⟩ := hc i hi
    have hcap := hS.cap
    have hkg := kindAt_get hi
    have htg := textAt_get hi
    have hil : (i : Int) < (X.l.length : Int) := by omega
    have hlg : g < w.heap.size := by omega
    by_cases hk : X.l[i].kind = 1
    · have hw : wordM X.l b ⟨kd, fr, t0, wd, at0⟩ i = (⟨kd, fr, t0, X.l[i].text, i⟩, i + 1, b) := by
        unfold wordM; rw [if_neg hb, hkg, if_pos hk, htg]
      have d1 : ((X.l[i].kind : Int) == 1) = true := by rw [beq_iff_eq]; omega
      have d2 : ((X.l[i].kind : Int) != 1) = false := by rw [bne_eq_false_iff_eq]; omega
      rw [hw] at hlt ⊢
      have HL := Lib.hid hlt
      have e1 : IntKind.i64.wrap ((i : Int) + 1) = (i : Int) + 1 := by rw [IntKind.wrap_i64]; omega
      rw [eg] at rr
      generalize X.l[i] = t at *
      obtain ⟨tk, ta, tl_, tx⟩ := t
      dsimp only at *
      clear hS hb hlt hw hk hkg htg hc S1 RA
      go_enter Try.func82, Try.ntmps82
      go_wp2
      refine bodyPost_ret ?_ rfl ⟨rfl, ?_, ?_, HL.out⟩
      · simp [results, Try.results82, go_sem]
      · exact (HS.out.alloc _).alloc _
      · exact Fr.of ((bel1 _ _).alloc (by simp) _)
    · have hw : wordM X.l b ⟨kd, fr, t0, wd, at0⟩ i = (⟨kd, fr, t0, wd, at0⟩, i, (i : Int)) := by
        unfold wordM; rw [if_neg hb, hkg, if_neg hk]
      have d1 : ((X.l[i].kind : Int) == 1) = false := by rw [beq_eq_false_iff_ne]; omega
      have d2 : ((X.l[i].kind : Int) != 1) = true := by rw [bne_iff_ne]; omega
      rw [hw]
      have hn : (i : Int) ≥ 0 := by omega
      rw [eg] at rr
      generalize X.l[i] = t at *
      obtain ⟨tk, ta, tl_, tx⟩ := t
      dsimp only at *
      clear hS hb hlt hw hk hkg htg hc S1 RA hb2
      go_enter Try.func82, Try.ntmps82
      go_wp2
      refine bodyPost_ret ?_ rfl ⟨rfl, ?_, ?_, hi⟩
      · simp [results, Try.results82, go_sem]
      · exact ((HS.out.stop _ (by omega)).alloc _).alloc _
      · exact (((Fr.refl _ _ _).put 1 _).alloc (by simp) _).alloc (by simp) _
end Ps
end Go.Proofs.Ytnefnnoleeeedaa
namespace Go.Proofs.Ytnefnnoleeeedaa
open Go.RowKit
namespace Ps
abbrev Row := Nat × TypeId × Array Value
abbrev Kid := Fo × Option Addr × Nat
def PB (lo : Nat) (Rs : List Row) (v : Value) (g : Nat) : Prop := lo ≤ g ∧ (∀ p ∈ Rs, p.1 ≠ g) ∧ v.ownBlock ≠ some g
structure LS (X : Cx) (w0 w : World) (b : Int) (Rs : List Row) (Ks : List Kid) (v : Value) (K : Fo) : Prop where
  st : St X w b
  fr : Fr X.rb w0.heap.size w0 w
  rows : ∀ p ∈ Rs, RowB w p.1 p.2.1 p.2.2 ∧ w0.heap.size ≤ p.1
  nd : (Rs.map Prod.fst).Nodup
  kvs : ∀ k ∈ Ks, KV w (PB w0.heap.size Rs v) k.1 k.2.1 k.2.2
  own : ∃ cs, w.ownsRow w0.heap.size 25 6 v K.len cs ∧ FC w (PB w0.heap.size Rs v) K cs
  ownr : ∀ p ∈ Rs, v.ownBlock ≠ some p.1
  rb : X.rb < w0.heap.size
variable {X : Cx} {w0 w w' : World} {b : Int} {Rs : List Row} {Ks : List Kid} {v : Value} {K : Fo}
theorem LS.start (h : St X w b) : LS X w w b [] [] (.slice none 0 0) .nil :=
  ⟨h, Fr.refl _ _ _, (by simp), (by simp), (by simp), ⟨[], World.ownsRow_nil _ _ _ _, by rw [FC]⟩, (by simp), h.row.lt⟩
theorem LS.size (h : LS X w0 w b Rs Ks v K) : w0.heap.size ≤ w.heap.size := h.fr.size
theorem LS.step (h : LS X w0 w b Rs Ks v K) {b' : Int} (hS : St X w' b') (hF : Fr X.rb w.heap.size w w') : LS X w0 w' b' Rs Ks v K := by
  have hrb := h.rb
  have hb : ∀ g, PB w0.heap.size Rs v g → g < w.heap.size → w'.heap[g]? = w.heap[g]? ∧ PB w0.heap.size Rs v g := fun g hg hl => ⟨hF.block g hl (by have := hg.1; omega), hg⟩
  refine ⟨hS, h.fr.trans (hF.mono h.size), fun p hp => ?_, h.nd, fun k hk => (h.kvs k hk).keep hF.size hb, ?_, h.ownr, hrb⟩
  · obtain ⟨r1, r2⟩ := h.rows p hp
    exact ⟨hF.row r1 r1.lt (by omega), r2⟩
  · obtain ⟨cs, o1, o2⟩ := h.own
    exact ⟨cs, hF.own o1 hrb, o2.keep hF.size hb⟩
theorem LS.other (h : LS X w0 w b Rs Ks v K) (hb : Below w.heap.size w w') : LS X w0 w' b Rs Ks v K := h.step (h.st.below hb) (.of hb)
theorem LS.alloc (h : LS X w0 w b Rs Ks v K) (g0 : Nat) (hg0 : g0 = w.heap.size) (t : TypeId) (c : Array Value) : LS X w0 (w.alloc (.cells c t)) b ((g0, t, c) :: Rs) Ks v K := by
  subst hg0
  have h' := h.other (bel1 w (.cells c t))
  have hsz := h.size
  have hlt : ∀ p ∈ Rs, p.1 < w.heap.size := fun p hp => (h.rows p hp).1.lt
  have hP : ∀ g, PB w0.heap.size Rs v g → g < w.heap.size → PB w0.heap.size ((w.heap.size, t, c) :: Rs) v g := fun g hg hl => ⟨hg.1, fun p hp => by
    rcases List.mem_cons.1 hp with rfl | hp
    · exact Nat.ne_of_gt hl
    · exact hg.2.1 p hp, hg.2.2⟩
  have hbk : ∀ g, PB w0.heap.size Rs v g → g < w.heap.size → (w.alloc (.cells c t)).heap[g]? = w.heap[g]? ∧ PB w0.heap.size ((w.heap.size, t, c) :: Rs) v g := fun g hg hl => ⟨Below.heap_alloc _ _ _ hl, hP g hg hl⟩
  refine ⟨h'.st, h'.fr, fun p hp => ?_, ?_, fun k hk => (h.kvs k hk).keep (by simp) hbk, ?_, fun p hp => ?_, h.rb⟩
  · rcases List.mem_cons.1 hp with rfl | hp
    · exact ⟨RowB.new w t c, hsz⟩
    · exact h'.rows p hp
  · rw [List.map_cons, List.nodup_cons]
    refine ⟨fun hm => ?_, h.nd⟩
    obtain ⟨p, hp, e⟩ := List.mem_map.1 hm
    have := hlt p hp
    dsimp only at e
    omega
  · obtain ⟨cs, o1, o2⟩ := h.own
    exact ⟨cs, o1.alloc _, o2.keep (by simp) hbk⟩
  · rcases List.mem_cons.1 hp with rfl | hp
    · intro e
      obtain ⟨cs, o1, _⟩ := h.own
      have := (o1.lt _ e).2
      dsimp only at this
      omega
    · exact h.ownr p hp
theorem LS.kid (h : LS X w0 w b Rs Ks v K) {b' : Int} (hS : St X w' b') (hF : Fr X.rb w.heap.size w w') {k : Fo} {A : Option Addr} {cap : Nat} (hk : KV w' (fun g => w.heap.size ≤ g) k A cap) : LS X w0 w' b' Rs ((k, A, cap) :: Ks) v K := by
  have h' := h.step hS hF
  have hsz := h.size
  refine ⟨h'.st, h'.fr, h'.rows, h'.nd, fun x hx => ?_, h'.own, h'.ownr, h'.rb⟩
  rcases List.mem_cons.1 hx with rfl | hx
  · refine hk.keep (Nat.le_refl _) (fun g hg _ => ⟨rfl, by omega, fun p hp e => ?_, fun e => ?_⟩)
    · have := (h.rows p hp).1.lt; omega
    · obtain ⟨cs, o1, _⟩ := h.own
      have := (o1.lt _ e).2
      omega
  · exact h'.kvs x hx
theorem LS.slice (h : LS X w0 w b Rs Ks v K) (g0 : Nat) (hg0 : g0 = w.heap.size) {k : Fo} {cs : Array Value} (hf : FC w (PB w0.heap.size Rs v) k cs.toList) : LS X w0 (w.alloc (.cells cs 25)) b Rs ((k, some ⟨g0, 0, none⟩, k.len) :: Ks) v K := by
  subst hg0
  have h' := h.other (bel1 w (.cells cs 25))
  have hsz := h.size
  refine ⟨h'.st, h'.fr, h'.rows, h'.nd, fun x hx => ?_, h'.own, h'.ownr, h'.rb⟩
  rcases List.mem_cons.1 hx with rfl | hx
  · refine KV.new (RowB.new w 25 cs) (hf.keep (by simp) (fun g hg hl => ⟨Below.heap_alloc _ _ _ hl, hg⟩)) ⟨hsz, fun p hp e => ?_, fun e => ?_⟩
    · have := (h.rows p hp).1.lt; omega
    · obtain ⟨cs', o1, _⟩ := h.own
      have := (o1.lt _ e).2
      omega
  · exact h'.kvs x hx
theorem LS.set (h : LS X w0 w b Rs Ks v K) (n : Nat) {g : Nat} {t : TypeId} {c : Array Value} (hn : Rs[n]? = some (g, t, c)) (i : Nat) (u : Value) : LS X w0 (w.setCell ⟨g, i, none⟩ u) b (Rs.set n (g, t, c.setIfInBounds i u)) Ks v K := by
  have hrb := h.rb
  obtain ⟨hlt, hg⟩ := List.getElem?_eq_some_iff.1 hn
  obtain ⟨r1, r2⟩ := h.rows (g, t, c) (by rw [← hg]; exact List.getElem_mem hlt)
  dsimp only at r1 r2
  have hfst : (Rs.set n (g, t, c.setIfInBounds i u)).map Prod.fst = Rs.map Prod.fst := by
    rw [List.map_set]
    apply List.ext_getElem (by simp)
    intro j h1 h2
    rw [List.getElem_set]
    split
    · rename_i e; subst e; simp [hg]
    · rfl
  have hmem : ∀ p ∈ Rs.set n (g, t, c.setIfInBounds i u), ∃ q ∈ Rs, q.1 = p.1 := fun p hp => by
    have : p.1 ∈ (Rs.set n (g, t, c.setIfInBounds i u)).map Prod.fst := List.mem_map_of_mem hp
    rw [hfst] at this
    exact List.mem_map.1 this
  have hgm : (g, t, c) ∈ Rs := by rw [← hg]; exact List.getElem_mem hlt
  have hP : ∀ g', PB w0.heap.size Rs v g' → g' < w.heap.size → (w.setCell ⟨g, i, none⟩ u).heap[g']? = w.heap[g']? ∧ PB w0.heap.size (Rs.set n (g, t, c.setIfInBounds i u)) v g' := fun g' hg' _ => by
    refine ⟨Below.heap_setCell _ _ _ _ (fun e => hg'.2.1 _ hgm e.symm), hg'.1, fun p hp => ?_, hg'.2.2⟩
    obtain ⟨q, hq, e⟩ := hmem p hp
    rw [← e]; exact hg'.2.1 q hq
  refine ⟨h.st.far (by dsimp only; omega) u, h.fr.setCell (by dsimp only; omega) u, fun p hp => ?_, by rw [hfst]; exact h.nd, fun k hk => (h.kvs k hk).keep (by simp [World.setCell]) hP, ?_, fun p hp => ?_, hrb⟩
  · obtain ⟨j, hj, rfl⟩ := List.getElem_of_mem hp
    have hj' : j < Rs.length := by simpa using hj
    rw [List.getElem_set]
    split
    · exact ⟨r1.put i u, r2⟩
    · rename_i ej
      obtain ⟨q1, q2⟩ := h.rows _ (List.getElem_mem hj')
      refine ⟨q1.far (fun e => ?_) u, q2⟩
      have hnd := List.pairwise_iff_getElem.1 h.nd
      dsimp only at e
      rcases Nat.lt_or_gt_of_ne ej with h1 | h1
      · have := hnd n j (by simpa using hlt) (by simpa using hj') h1
        simp [hg, e] at this
      · have := hnd j n (by simpa using hj') (by simpa using hlt) h1
        simp [hg, e] at this
  · obtain ⟨cs, o1, o2⟩ := h.own
    exact ⟨cs, ownsRow_setCell_other o1 (a := ⟨g, i, none⟩) (h.ownr _ hgm) u, o2.keep (by simp [World.setCell]) hP⟩
  · obtain ⟨q, hq, e⟩ := hmem p hp
    rw [← e]; exact h.ownr q hq
theorem LS.push (h : LS X w0 w b Rs Ks v K) {v' : Value} {k : Fo} {news cs : List Value} (hc : w.ownsRow w0.heap.size 25 6 v K.len cs ∧ FC w (PB w0.heap.size Rs v) K cs) (hf : FC w (PB w0.heap.size Rs v) k news) (hown : w'.ownsRow w0.heap.size 25 6 v' (K.len + k.len) (cs ++ news)) (hg : w.grownBy w' v.ownBlock) (hat : ∀ j, v'.ownBlock = some j → v.ownBlock = some j ∨ w.heap.size ≤ j) : LS X w0 w' b Rs Ks v' (K.app k) := by
  have hrb := h.rb
  have hlt := hc.1.lt
  have hP : ∀ g, PB w0.heap.size Rs v g → g < w.heap.size → w'.heap[g]? = w.heap[g]? ∧ PB w0.heap.size Rs v' g := fun g hp hl => by
    refine ⟨hg.block g hl (fun e => hp.2.2 e.symm), hp.1, hp.2.1, fun e => ?_⟩
    rcases hat g e with e | e
    · exact hp.2.2 e
    · omega
  refine ⟨h.st.grown hg (fun j e => ?_), h.fr.grown hg h.size (fun j e => (hlt j e).1), fun p hp => ?_, h.nd, fun x hx => (h.kvs x hx).keep hg.size hP, ⟨cs ++ news, ?_, FC.app K cs (hc.2.keep hg.size hP) (hf.keep hg.size hP)⟩, fun p hp e => ?_, hrb⟩
  · have := (hlt j e).1; omega
  · obtain ⟨r1, r2⟩ := h.rows p hp
    exact ⟨r1.grown hg (fun e => h.ownr p hp e.symm), r2⟩
  · rw [Fo.len_app]; exact hown
  · rcases hat _ e with e | e
    · exact h.ownr p hp e
    · have := (h.rows p hp).1.lt
      omega
theorem LS.list (h : LS X w0 w b Rs Ks v K) : ∃ A cap, v = .slice A K.len cap ∧ K.len ≤ cap ∧ KV w (fun g => w0.heap.size ≤ g) K A cap := by
  obtain ⟨cs, o1, o2⟩ := h.own
  have hv : ∃ A cap, v = .slice A K.len cap ∧ K.len ≤ cap := by
    rcases o1.2 with ⟨rfl, e⟩ | ⟨g, cap, cur, rfl, _, _, hc, _⟩
    · exact ⟨none, 0, by rw [e], by omega⟩
    · exact ⟨_, cap, rfl, hc⟩
  obtain ⟨A, cap, rfl, hc⟩ := hv
  exact ⟨A, cap, rfl, hc, KV.of_own o1 rfl o2 (fun g hg => hg.1) (fun g hg _ => hg) hc⟩
theorem LS.listP (h : LS X w0 w b Rs Ks v K) : ∃ A cap, v = .slice A K.len cap ∧ K.len ≤ cap ∧ KV w (fun g => w0.heap.size ≤ g ∧ ∀ p ∈ Rs, p.1 ≠ g) K A cap := by
  obtain ⟨A, cap, rfl, hc, _⟩ := h.list
  obtain ⟨cs, o1, o2⟩ := h.own
  exact ⟨A, cap, rfl, hc, KV.of_own o1 rfl o2 (fun g hg => ⟨hg.1, hg.2.1⟩) (fun g hg e => ⟨hg, fun p hp e2 => h.ownr p hp (by rw [e2]; exact e)⟩) hc⟩
theorem LS.fresh (h : LS X w0 w b Rs Ks v K) : LS X w0 w b Rs Ks (.slice none 0 0) .nil :=
  ⟨h.st, h.fr, h.rows, h.nd, fun k hk => (h.kvs k hk).keep (Nat.le_refl _) (fun g hg _ => ⟨rfl, hg.1, hg.2.1, by simp [Value.ownBlock]⟩), ⟨[], World.ownsRow_nil _ _ _ _, by rw [FC]⟩, fun p _ => by simp [Value.ownBlock], h.rb⟩
theorem LS.row (h : LS X w0 w b Rs Ks v K) (n : Nat) {g : Nat} {t : TypeId} {c : Array Value} (hn : Rs[n]? = some (g, t, c)) : RowB w g t c := by
  obtain ⟨hlt, hg⟩ := List.getElem?_eq_some_iff.1 hn
  exact (h.rows (g, t, c) (by rw [← hg]; exact List.getElem_mem hlt)).1
theorem LS.kidP (h : LS X w0 w b Rs Ks v K) (n : Nat) {k : Fo} {A : Option Addr} {cap : Nat} (hn : Ks[n]? = some (k, A, cap)) : KV w (PB w0.heap.size Rs v) k A cap := by
  obtain ⟨hlt, hg⟩ := List.getElem?_eq_some_iff.1 hn
  exact h.kvs (k, A, cap) (by rw [← hg]; exact List.getElem_mem hlt)
theorem LS.put6 (h : LS X w0 w b Rs Ks v K) (n : Nat) {g : Nat} {t : TypeId} {c : Array Value} (hn : Rs[n]? = some (g, t, c)) (hc : c.size = 6) (u0 u1 u2 u3 u4 u5 : Value) :
    LS X w0 ((((((w.setCell ⟨g, 0, none⟩ u0).setCell ⟨g, 1, none⟩ u1).setCell ⟨g, 2, none⟩ u2).setCell ⟨g, 3, none⟩ u3).setCell ⟨g, 4, none⟩ u4).setCell ⟨g, 5, none⟩ u5) b (Rs.set n (g, t, #[u0, u1, u2, u3, u4, u5])) Ks v K := by
  have hlt : n < Rs.length := (List.getElem?_eq_some_iff.1 hn).1
  have key : ∀ (l : List Row) (x : Row), l.length = Rs.length → (l.set n x)[n]? = some x := fun l x hl => by rw [List.getElem?_set_self (by omega)]
  have h1 := h.set n hn 0 u0
  have h2 := h1.set n (key _ _ (by simp)) 1 u1
  have h3 := h2.set n (key _ _ (by simp)) 2 u2
  have h4 := h3.set n (key _ _ (by simp)) 3 u3
  have h5 := h4.set n (key _ _ (by simp)) 4 u4
  have h6 := h5.set n (key _ _ (by simp)) 5 u5
  simp only [List.set_set] at h6
  rwa [six hc] at h6
theorem LS.lit (h : LS X w0 w b Rs Ks v K) {k : Fo} {cs : Array Value} (hf : FC w (PB w0.heap.size Rs (.slice none 0 0)) k cs.toList) (g0 : Nat) (hg0 : g0 = w.heap.size) (hm : k.len ≤ maxLen) : LS X w0 (w.alloc (.cells cs 25)) b Rs Ks (.slice (some ⟨g0, 0, none⟩) k.len k.len) k := by
  subst hg0
  have h' := h.fresh.other (bel1 w (.cells cs 25))
  have hsz := h.size
  have hkl := hf.len
  have hbk : ∀ g, PB w0.heap.size Rs (.slice none 0 0) g → g < w.heap.size → (w.alloc (.cells cs 25)).heap[g]? = w.heap[g]? ∧ PB w0.heap.size Rs (.slice (some ⟨w.heap.size, 0, none⟩) k.len k.len) g := fun g hg hl => ⟨Below.heap_alloc _ _ _ hl, hg.1, hg.2.1, by simp [Value.ownBlock]; omega⟩
  refine ⟨h'.st, h'.fr, h'.rows, h'.nd, fun x hx => (h.fresh.kvs x hx).keep (by simp) hbk, ⟨cs.toList, ⟨by simpa using hkl, .inr ⟨w.heap.size, k.len, cs, rfl, hsz, heap_alloc_new w _, Nat.le_refl _, hm, by simpa using hkl, ?_⟩⟩, hf.keep (by simp) hbk⟩, fun p hp => ?_, h.rb⟩
  · rw [List.take_of_length_le (by rw [hkl]; exact Nat.le_refl _)]
  · have := (h.rows p hp).1.lt
    simp [Value.ownBlock]; omega
theorem LS.drop {p : Row} (h : LS X w0 w b (p :: Rs) Ks v K) : LS X w0 w b Rs Ks v K := by
  have hb : ∀ g, PB w0.heap.size (p :: Rs) v g → g < w.heap.size → w.heap[g]? = w.heap[g]? ∧ PB w0.heap.size Rs v g := fun g hg _ => ⟨rfl, hg.1, fun q hq => hg.2.1 q (List.mem_cons_of_mem _ hq), hg.2.2⟩
  obtain ⟨cs, o1, o2⟩ := h.own
  exact ⟨h.st, h.fr, fun q hq => h.rows q (List.mem_cons_of_mem _ hq), (List.nodup_cons.1 h.nd).2, fun k hk => (h.kvs k hk).keep (Nat.le_refl _) hb, ⟨cs, o1, o2.keep (Nat.le_refl _) hb⟩, fun q hq => h.ownr q (List.mem_cons_of_mem _ hq), h.rb⟩
theorem LS.noK (h : LS X w0 w b Rs Ks v K) : LS X w0 w b Rs [] v K :=
  ⟨h.st, h.fr, h.rows, h.nd, fun q hq => by simp at hq, h.own, h.ownr, h.rb⟩
theorem LS.kv {A : Option Addr} {cap n : Nat} (h : LS X w0 w b Rs Ks (.slice A n cap) K) : KV w (fun g => w0.heap.size ≤ g) K A cap := by
  obtain ⟨A', cap', e, hc, hk⟩ := h.list
  obtain ⟨e1, e2, e3⟩ := Value.slice.inj e
  rw [e1, e3]
  exact hk
theorem LS.K1 {k : Kid} (h : LS X w0 w b Rs (k :: Ks) v K) : LS X w0 w b Rs [k] v K :=
  ⟨h.st, h.fr, h.rows, h.nd, fun q hq => h.kvs q (by rw [List.mem_singleton.1 hq]; exact List.mem_cons_self), h.own, h.ownr, h.rb⟩
theorem LS.toKid {A : Option Addr} {cap n : Nat} (h : LS X w0 w b Rs Ks (.slice A n cap) K) : LS X w0 w b Rs ((K, A, cap) :: Ks) (.slice none 0 0) .nil := by
  have hf := h.fresh
  obtain ⟨A', cap', e, hc, hk⟩ := h.listP
  obtain ⟨e1, e2, e3⟩ := Value.slice.inj e
  refine ⟨hf.st, hf.fr, hf.rows, hf.nd, fun x hx => ?_, hf.own, hf.ownr, hf.rb⟩
  rcases List.mem_cons.1 hx with rfl | hx
  · rw [← e1, ← e3] at hk
    exact hk.keep (Nat.le_refl _) (fun g hg _ => ⟨rfl, hg.1, hg.2, by simp [Value.ownBlock]⟩)
  · exact hf.kvs x hx
end Ps
end Go.Proofs.Ytnefnnoleeeedaa
namespace Go.Proofs.Ytnefnnoleeeedaa
open Go.RowKit
namespace Ps
def NodeP (X : Cx) (w : World) (r : Fo × Nat × Int) (e : Ending) (w' : World) : Prop :=
  ∃ h k A cap, r.1 = .one h k ∧ e = .returned (.tuple #[nv h A k.len cap, .int .i64 r.2.1]) ∧ KV w' (fun g => w.heap.size ≤ g) k A cap ∧ St X w' r.2.2 ∧ Fr X.rb w.heap.size w w' ∧ r.2.1 < X.l.length
abbrev zc : Array Value := #[.int .i64 0, .int .i64 0, .int .i64 0, .string ⟨#[]⟩, .int .i64 0, .slice none 0 0]
abbrev nc (h : Hd) (A : Option Addr) (n cap : Nat) : Array Value := #[.int .i64 h.kind, .int .i64 h.fro, .int .i64 h.til, .string h.word, .int .i64 h.at_, .slice A n cap]
set_option maxHeartbeats 4000000 in
set_option maxRecDepth 100000 in
theorem use_any (X : Cx) (b : Int) (i : Nat) (w : World) (hS : St X w b) (hi : i + 1 < X.l.length) :
    Calls Try.prog 54 #[X.p, .int .i64 i] w fun e w' => NodeP X w (useM X.l b i) e w' := by
  have hrb := hS.row.lt
  have hle := hS.wf.le
  obtain ⟨j, hj⟩ : ∃ j, j = i + 1 := ⟨_, rfl⟩
  obtain ⟨⟨⟨k1, f1, t1, wd1, q1⟩, a1, b1⟩, h1⟩ : ∃ r, r = wordM X.l b ⟨23, j, 0, e0, 0⟩ j := ⟨_, rfl⟩
  obtain ⟨⟨a2, b2⟩, h2⟩ : ∃ r, r = wantM X.l b1 a1 sDot := ⟨_, rfl⟩
  obtain ⟨⟨⟨k3, f3, t3, wd3, q3⟩, a3, b3⟩, h3⟩ : ∃ r, r = wordM X.l b2 ⟨2, i, 0, e0, 0⟩ a2 := ⟨_, rfl⟩
  obtain ⟨⟨a4, b4⟩, h4⟩ : ∃ r, r = wantM X.l b3 a3 sSem := ⟨_, rfl⟩
  have hres : useM X.l b i = (.one ⟨k3, f3, a4, wd3, q3⟩ (.one ⟨k1, f1, a1, wd1, q1⟩ .nil), a4, b4) := by
    unfold useM
    simp only [← hj, ← h1, ← h2, ← h3, ← h4]
  rw [hres]
  have C1 : Hid (∀ w', St X w' b → Calls Try.prog 82 #[X.p, nv ⟨23, j, 0, e0, 0⟩ none 0 0, .int .i64 j] w' fun e w'' => WordP X w' (⟨k1, f1, t1, wd1, q1⟩, a1, b1) none 0 0 e w'') := fun w' h => by rw [h1]; exact word_any X b _ none 0 0 j w' h (by omega)
  have C2 : Hid (a1 < X.l.length → ∀ w', St X w' b1 → Calls Try.prog 83 #[X.p, .int .i64 a1, .string ⟨#[46]⟩] w' fun e w'' => AtP X w' (a2, b2) e w'') := fun hl w' h => by rw [h2]; exact want_any X b1 a1 ⟨#[46]⟩ w' h hl
  have C3 : Hid (a2 < X.l.length → ∀ w', St X w' b2 → Calls Try.prog 82 #[X.p, nv ⟨2, i, 0, e0, 0⟩ none 0 0, .int .i64 a2] w' fun e w'' => WordP X w' (⟨k3, f3, t3, wd3, q3⟩, a3, b3) none 0 0 e w'') := fun hl w' h => by rw [h3]; exact word_any X b2 _ none 0 0 a2 w' h hl
  have C4 : Hid (a3 < X.l.length → ∀ w', St X w' b3 → Calls Try.prog 83 #[X.p, .int .i64 a3, .string ⟨#[59]⟩] w' fun e w'' => AtP X w' (a4, b4) e w'') := fun hl w' h => by rw [h4]; exact want_any X b3 a3 ⟨#[59]⟩ w' h hl
  have L0 := Lib.hid ((LS.start hS).alloc w.heap.size rfl 25 zc)
  have e1 : IntKind.i64.wrap ((i : Int) + 1) = (j : Int) := by rw [IntKind.wrap_i64]; omega
  clear hS h1 h2 h3 h4 hres hj
  go_enter Try.func54, Try.ntmps54
  go_wp2_with fail
  refine (C1.out _ L0.out.st).mono ?_
  rintro e w1 ⟨rfl, hS1, hF1, hl1⟩
  have L1 := Lib.hid (((L0.out.step hS1 hF1).alloc w1.heap.size rfl 25 (nc ⟨k1, f1, a1, wd1, q1⟩ none 0 0)).alloc (w1.heap.size + 1) (by simp) 25 (nc ⟨2, i, 0, e0, 0⟩ none 0 0))
  clear hS1 hF1
  go_wp2_with fail
  refine (C2.out hl1 _ L1.out.st).mono ?_
  rintro e w2 ⟨rfl, hS2, hF2, hl2⟩
  have L2 := Lib.hid (L1.out.step hS2 hF2)
  have r2 := (L2.out.row 0 rfl).cell
  clear hS2 hF2
  go_wp2_with fail
  refine (C3.out hl2 _ L2.out.st).mono ?_
  rintro e w3 ⟨rfl, hS3, hF3, hl3⟩
  have L3 := Lib.hid ((L2.out.step hS3 hF3).put6 0 rfl rfl (.int .i64 k3) (.int .i64 f3) (.int .i64 t3) (.string wd3) (.int .i64 q3) (.slice none 0 0))
  have r3 := ((L2.out.step hS3 hF3).row 0 rfl).cell
  have t3' := ((L2.out.step hS3 hF3).row 0 rfl).thaw
  clear hS3 hF3 r2
  go_wp2_with fail
  refine (C4.out hl3 _ L3.out.st).mono ?_
  rintro e w4 ⟨rfl, hS4, hF4, hl4⟩
  have L4 := Lib.hid (L3.out.step hS4 hF4)
  have r4 := (L4.out.row 0 rfl).cell
  have r5 := (L4.out.row 1 rfl).cell
  have r6 := (L4.out.row 2 rfl).cell
  have t6 := (L4.out.row 2 rfl).thaw
  clear hS4 hF4 r3 t3'
  go_wp2_with fail
  have L5 := Lib.hid (L4.out.slice w4.heap.size rfl (k := .one ⟨k1, f1, a1, wd1, q1⟩ .nil) (cs := nc ⟨k1, f1, a1, wd1, q1⟩ none 0 0) (FC.one (KV.nil _ _ _ _)))
  refine (ended_any ⟨k3, f3, t3, wd3, q3⟩ none 0 0 a4 (some ⟨w4.heap.size, 0, none⟩) 1 1 _).mono ?_
  rintro e w5 ⟨rfl, hb5⟩
  have L6 := Lib.hid ((L5.out.other hb5).put6 2 rfl rfl (.int .i64 k3) (.int .i64 f3) (.int .i64 a4) (.string wd3) (.int .i64 q3) (.slice (some ⟨w4.heap.size, 0, none⟩) 1 1))
  have r7 := ((L5.out.other hb5).row 2 rfl).cell
  have t7 := ((L5.out.other hb5).row 2 rfl).thaw
  have r8 := (L6.out.row 2 rfl).cell
  clear hb5 r4 r5 r6 t6
  go_wp2
  refine bodyPost_ret ?_ rfl ⟨⟨k3, f3, a4, wd3, q3⟩, .one ⟨k1, f1, a1, wd1, q1⟩ .nil, some ⟨w4.heap.size, 0, none⟩, 1, rfl, rfl, ?_, L6.out.st, L6.out.fr, hl4⟩
  · simp [results, Try.results54, go_sem, r8]
    rfl
  · exact (L6.out.kidP 0 rfl).new_ (fun g h => h.1)
end Ps
end Go.Proofs.Ytnefnnoleeeedaa
