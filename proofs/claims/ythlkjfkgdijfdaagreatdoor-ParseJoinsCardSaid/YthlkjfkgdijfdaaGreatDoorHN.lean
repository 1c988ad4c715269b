/- Mathematics: reading goes on, token by token. -/
import Derived.Test.YthlkjfkgdijfdaaGreatDoorHL
import Derived.Test.YthlkjfkgdijfdaaGreatDoorHK
namespace Go.Proofs.YthlkjfkgdijfdaaGreatDoor
namespace Ps
open Pg
variable {l : List Tok}
theorem ty_go {f : Nat} {t : TT} {b : Int} {i : Nat} {r : Fo × Nat × Int} (h : tyM l f t b i = some r) (hr : r.2.2 < 0) : i + sT t ≤ r.2.1 := (ty_apt f t b i r h hr).2
theorem ex_go : ∀ (f : Nat) (t : XT) (b : Int) (i : Nat) (r : Fo × Nat × Int), exM l f t b i = some r → r.2.2 < 0 → i + sX t ≤ r.2.1 := by
  intro f
  induction f with
  | zero => intro t b i r h; rw [exM] at h; cases h
  | succ f ih =>
    intro t b i r h hr
    have hb := exM_was h hr
    cases t with
    | lambda => exact (ex_apt _ _ _ _ _ h hr trivial).2
    | block => exact (ex_apt _ _ _ _ _ h hr trivial).2
    | stmts => exact (ex_apt _ _ _ _ _ h hr trivial).2
    | stmt => exact (ex_apt _ _ _ _ _ h hr trivial).2
    | expr => exact (ex_apt _ _ _ _ _ h hr trivial).2.1
    | sum => exact (ex_apt _ _ _ _ _ h hr trivial).2.1
    | term => exact (ex_apt _ _ _ _ _ h hr trivial).2.1
    | post => exact (ex_apt _ _ _ _ _ h hr trivial).2.1
    | atom => exact (ex_apt _ _ _ _ _ h hr trivial).2.1
    | args first => exact (ex_apt _ _ _ _ _ h hr trivial).2
    | entries first => exact (ex_apt _ _ _ _ _ h hr trivial).2
    | sumL a =>
      show i ≤ _
      rw [exM] at h
      split at h
      · obtain ⟨c, h1, h⟩ := Option.bind_eq_some_iff.1 h
        have g1 := ih _ _ _ _ h hr
        have g2 := ih _ _ _ _ h1 (exM_was h hr)
        simp only [sX] at g1 g2
        omega
      · injection h with h; subst h; exact Nat.le_refl _
    | termL a =>
      show i ≤ _
      rw [exM] at h
      split at h
      · obtain ⟨c, h1, h⟩ := Option.bind_eq_some_iff.1 h
        have g1 := ih _ _ _ _ h hr
        have g2 := ih _ _ _ _ h1 (exM_was h hr)
        simp only [sX] at g1 g2
        omega
      · injection h with h; subst h; exact Nat.le_refl _
    | postL a =>
      show i ≤ _
      rw [exM] at h
      split at h
      · split at h
        · have g1 := ih _ _ _ _ h hr
          obtain ⟨_, _, w1, _⟩ := word_g (exM_was h hr)
          simp only [sX] at g1
          omega
        · obtain ⟨k, h1, h⟩ := Option.bind_eq_some_iff.1 h
          have g1 := ih _ _ _ _ h hr
          obtain ⟨g2, w1, _⟩ := want_g (exM_was h hr)
          have g3 := ih _ _ _ _ h1 g2
          simp only [sX] at g1 g3
          omega
      · injection h with h; subst h; exact Nat.le_refl _

/-! The same tokens elsewhere are read alike. -/
theorem Eqv.app {pl : Bool} : ∀ {a a' b b' : Fo}, Eqv pl a a' → Eqv pl b b' → Eqv pl (a.app b) (a'.app b')
  | .nil, .nil, _, _, _, hb => hb
  | .cons _ _ _, .cons _ _ _, _, _, ha, hb => ⟨ha.1, ha.2.1, Eqv.app ha.2.2 hb⟩
  | .nil, .cons _ _ _, _, _, ha, _ => ha.elim
  | .cons _ _ _, .nil, _, _, ha, _ => ha.elim
theorem Eqv.one {h h' : Hd} {k k' : Fo} (e1 : h.kind = h'.kind) (e2 : h.word = h'.word) (hk : Eqv false k k') : Eqv false (.one h k) (.one h' k') := ⟨⟨e1, e2, fun h => by cases h⟩, hk, trivial⟩
theorem Eqv.symm_false : ∀ {a a' : Fo}, Eqv false a a' → Eqv false a' a
  | .nil, .nil, _ => trivial
  | .cons _ _ _, .cons _ _ _, ha => ⟨⟨ha.1.1.symm, ha.1.2.1.symm, fun h => by cases h⟩, Eqv.symm_false ha.2.1, Eqv.symm_false ha.2.2⟩
  | .nil, .cons _ _ _, ha => ha.elim
  | .cons _ _ _, .nil, ha => ha.elim
theorem Eqv.deep {pl : Bool} : ∀ {a a' : Fo}, Eqv pl a a' → a.deep = a'.deep
  | .nil, .nil, _ => rfl
  | .cons _ _ _, .cons _ _ _, ha => by rw [Fo.deep, Fo.deep, Eqv.deep ha.2.1, Eqv.deep ha.2.2]
  | .nil, .cons _ _ _, ha => ha.elim
  | .cons _ _ _, .nil, ha => ha.elim
/-- The first N tokens of the one list stand in the other one, from a place on. -/
structure Sim (l l' : List Tok) (d N : Nat) : Prop where
  m : ∀ j, j < N → ∀ x, isM l' (j + d) x = isM l j x
  k : ∀ j, j < N → kindAt l' (j + d) = kindAt l j
  t : ∀ j, j < N → textAt l' (j + d) = textAt l j
variable {l' : List Tok} {d N : Nat}
/-- What is read there. -/
def Alike (d : Nat) (r : Fo × Nat × Int) (o : Res) : Prop := ∃ k', o = some (k', r.2.1 + d, r.2.2) ∧ Eqv false r.1 k'
theorem want_s (S : Sim l l' d N) {b : Int} {i : Nat} {x : List UInt8} (h : (wantM l b i x).2 < 0) (hN : (wantM l b i x).1 ≤ N) : b < 0 ∧ wantM l b i x = (i + 1, b) ∧ wantM l' b (i + d) x = (i + 1 + d, b) ∧ i < N := by
  obtain ⟨h1, h2, h3⟩ := wantM_good h
  rw [h3] at hN
  dsimp only at hN
  refine ⟨h1, h3, ?_, by omega⟩
  unfold wantM
  rw [if_neg (by omega), S.m i (by omega), if_pos h2]
  congr 1
  omega
theorem word_s (S : Sim l l' d N) {b : Int} {i : Nat} {hd : Hd} (h : (wordM l b hd i).2.2 < 0) (hN : (wordM l b hd i).2.1 ≤ N) : b < 0 ∧ wordM l b hd i = ({ hd with word := textAt l i, at_ := i }, i + 1, b) ∧ (∀ hd' : Hd, wordM l' b hd' (i + d) = ({ hd' with word := textAt l i, at_ := i + d }, i + 1 + d, b)) ∧ i < N := by
  obtain ⟨h1, h2, h3⟩ := wordM_good h
  rw [h3] at hN
  dsimp only at hN
  refine ⟨h1, h3, fun hd' => ?_, by omega⟩
  unfold wordM
  rw [if_neg (by omega), S.k i (by omega), if_pos h2, S.t i (by omega)]
  congr 2
  omega
theorem ty_s (S : Sim l l' d N) : ∀ (f : Nat) (t : TT) (b : Int) (i : Nat) (r : Fo × Nat × Int), tyM l f t b i = some r → r.2.2 < 0 → r.2.1 + 1 ≤ N → Alike d r (tyM l' f t b (i + d)) := by
  intro f
  induction f with
  | zero => intro t b i r h; rw [tyM] at h; cases h
  | succ f ih =>
    intro t b i r h hr hN
    have hb := ty_was h hr
    have hgo := ty_go h hr
    have hm := fun x => S.m i (by omega) x
    cases t with
    | kind =>
      simp only [sT] at hgo
      rw [tyM, if_neg (by omega)] at h
      rw [tyM, if_neg (by omega), hm, hm, hm, hm]
      by_cases c1 : isM l i kInt = true
      · rw [if_pos c1] at h ⊢
        injection h with h; subst h
        exact ⟨.one ⟨29, i + d, i + d + 1, e0, 0⟩ .nil, by rw [show i + 1 + d = i + d + 1 by omega], Eqv.one rfl rfl trivial⟩
      · rw [if_neg c1] at h ⊢
        by_cases c2 : isM l i kStr = true
        · rw [if_pos c2] at h ⊢
          injection h with h; subst h
          exact ⟨.one ⟨30, i + d, i + d + 1, e0, 0⟩ .nil, by rw [show i + 1 + d = i + d + 1 by omega], Eqv.one rfl rfl trivial⟩
        · rw [if_neg c2] at h ⊢
          by_cases c3 : isM l i kDyn = true
          · rw [if_pos c3] at h ⊢
            injection h with h; subst h
            exact ⟨.one ⟨31, i + d, i + d + 1, e0, 0⟩ .nil, by rw [show i + 1 + d = i + d + 1 by omega], Eqv.one rfl rfl trivial⟩
          · rw [if_neg c3] at h ⊢
            by_cases c4 : isM l i sOpen = true
            · rw [if_pos c4] at h ⊢
              obtain ⟨x, hx, h⟩ := Option.bind_eq_some_iff.1 h
              injection h with h; subst h
              obtain ⟨g1, e1, w1, n1⟩ := want_s S hr (by dsimp only at hN ⊢; omega)
              obtain ⟨k', e2, q2⟩ := ih _ _ _ _ hx g1 (by omega)
              rw [show i + 1 + d = i + d + 1 by omega] at e2
              rw [e2, Option.bind_some]
              dsimp only
              rw [w1, e1]
              exact ⟨_, rfl, Eqv.one rfl rfl q2⟩
            · rw [if_neg c4] at h ⊢
              obtain ⟨x, hx, h⟩ := Option.bind_eq_some_iff.1 h
              obtain ⟨t, ht, h⟩ := Option.bind_eq_some_iff.1 h
              injection h with h; subst h
              dsimp only at hN hr
              have g4 := ty_was ht hr
              have p4 := ty_go ht hr
              simp only [sT] at p4
              obtain ⟨g3, e4, w4, n4⟩ := want_s S g4 (by omega)
              obtain ⟨g2, e3, w3, n3⟩ := want_s S g3 (by omega)
              have p2 := ty_go hx g2
              simp only [sT] at p2
              have g1 := ty_was hx g2
              obtain ⟨g0, e2, w2, n2⟩ := want_s S g1 (by omega)
              obtain ⟨_, e1, w1, n1⟩ := want_s S g0 (by omega)
              obtain ⟨k1, y1, z1⟩ := ih _ _ _ _ hx g2 (by omega)
              obtain ⟨k2, y2, z2⟩ := ih _ _ _ _ ht hr hN
              rw [e4] at y2
              rw [e3] at w4 y2
              rw [e2] at y1
              rw [e1] at w2 y1
              dsimp only at *
              rw [w1]
              dsimp only
              rw [w2]
              dsimp only
              rw [y1, Option.bind_some]
              dsimp only
              rw [w3]
              dsimp only
              rw [w4]
              dsimp only
              rw [y2, Option.bind_some]
              exact ⟨_, rfl, Eqv.one rfl rfl (Eqv.app z1 z2)⟩
    | recL first =>
      simp only [sT] at hgo
      rw [tyM] at h
      rw [tyM, hm]
      by_cases c1 : b < 0 ∧ ¬(first = true ∧ isM l i sShut = true)
      · rw [if_pos c1] at h ⊢
        obtain ⟨t, ht, h⟩ := Option.bind_eq_some_iff.1 h
        have key : t.2.2 < 0 → t.2.1 + 1 ≤ N → ∃ k', tyM l' f .kind (wantM l' (wordM l' b ⟨33, i + d, 0, e0, 0⟩ (i + d)).2.2 (wordM l' b ⟨33, i + d, 0, e0, 0⟩ (i + d)).2.1 sCol).2 (wantM l' (wordM l' b ⟨33, i + d, 0, e0, 0⟩ (i + d)).2.2 (wordM l' b ⟨33, i + d, 0, e0, 0⟩ (i + d)).2.1 sCol).1 = some (k', t.2.1 + d, t.2.2) ∧
            Eqv false (.one { (wordM l b ⟨33, i, 0, e0, 0⟩ i).1 with til := t.2.1 } t.1) (.one { (wordM l' b ⟨33, i + d, 0, e0, 0⟩ (i + d)).1 with til := t.2.1 + d } k') := fun hg hn => by
          have p4 := ty_go ht hg
          simp only [sT] at p4
          have g2 := ty_was ht hg
          obtain ⟨g1, e2, w2, n2⟩ := want_s S g2 (by omega)
          obtain ⟨_, e1, w1, n1⟩ := word_s S g1 (by omega)
          obtain ⟨k1, y1, z1⟩ := ih _ _ _ _ ht hg hn
          rw [e2] at y1
          rw [e1] at w2 y1
          dsimp only at *
          rw [w1]
          dsimp only
          rw [w2]
          refine ⟨k1, y1, ?_⟩
          rw [e1]
          exact Eqv.one rfl rfl z1
        dsimp only at *
        by_cases c2 : 0 ≤ t.2.2 ∨ isM l t.2.1 sShut = true
        · rw [if_pos c2] at h
          injection h with h; subst h
          dsimp only at hN hr
          obtain ⟨k', y1, z1⟩ := key hr hN
          rw [y1, Option.bind_some]
          dsimp only
          rw [S.m t.2.1 (by omega), if_pos c2]
          exact ⟨_, rfl, z1⟩
        · rw [if_neg c2] at h
          obtain ⟨x, hx, h⟩ := Option.map_eq_some_iff.1 h
          subst h
          dsimp only at hN hr
          have p4 := ty_go hx hr
          have g4 := ty_was hx hr
          obtain ⟨g3, e3, w3, n3⟩ := want_s S g4 (by omega)
          obtain ⟨k', y1, z1⟩ := key g3 (by omega)
          obtain ⟨k2, y2, z2⟩ := ih _ _ _ _ hx hr hN
          rw [e3] at y2
          rw [y1, Option.bind_some]
          dsimp only at *
          rw [S.m t.2.1 (by omega), if_neg c2, w3]
          dsimp only
          rw [y2]
          exact ⟨_, rfl, Eqv.app z1 z2⟩
      · rw [if_neg c1] at h ⊢
        injection h with h; subst h
        exact ⟨_, rfl, trivial⟩
    | fnL first =>
      simp only [sT] at hgo
      rw [tyM] at h
      rw [tyM, hm]
      by_cases c1 : b < 0 ∧ ¬(first = true ∧ isM l i sParS = true)
      · rw [if_pos c1] at h ⊢
        obtain ⟨t, ht, h⟩ := Option.bind_eq_some_iff.1 h
        by_cases c2 : 0 ≤ t.2.2 ∨ isM l t.2.1 sParS = true
        · rw [if_pos c2] at h
          injection h with h; subst h
          dsimp only at hN hr
          obtain ⟨k', y1, z1⟩ := ih _ _ _ _ ht hr hN
          rw [y1, Option.bind_some]
          dsimp only
          rw [S.m t.2.1 (by omega), if_pos c2]
          exact ⟨_, rfl, z1⟩
        · rw [if_neg c2] at h
          obtain ⟨x, hx, h⟩ := Option.map_eq_some_iff.1 h
          subst h
          dsimp only at hN hr
          have p4 := ty_go hx hr
          have g4 := ty_was hx hr
          obtain ⟨g3, e3, w3, n3⟩ := want_s S g4 (by omega)
          obtain ⟨k', y1, z1⟩ := ih _ _ _ _ ht g3 (by omega)
          obtain ⟨k2, y2, z2⟩ := ih _ _ _ _ hx hr hN
          rw [e3] at y2
          rw [y1, Option.bind_some]
          dsimp only at *
          rw [S.m t.2.1 (by omega), if_neg c2, w3]
          dsimp only
          rw [y2]
          exact ⟨_, rfl, Eqv.app z1 z2⟩
      · rw [if_neg c1] at h ⊢
        injection h with h; subst h
        exact ⟨_, rfl, trivial⟩
theorem typed_s (S : Sim l l' d N) {f : Nat} {b : Int} {i : Nat} {r : Fo × Nat × Int} (h : typedM l f b i = some r) (hr : r.2.2 < 0) (hN : r.2.1 + 1 ≤ N) : Alike d r (typedM l' f b (i + d)) := by
  have hgo := (typed_apt h hr).2
  unfold typedM at h ⊢
  rw [S.m i (by omega)]
  by_cases c : 0 ≤ b ∨ ¬isM l i sCol = true
  · rw [if_pos c] at h ⊢
    injection h with h; subst h
    exact ⟨_, rfl, Eqv.refl _ _⟩
  · rw [if_neg c] at h ⊢
    have := ty_s S _ _ _ _ _ h hr hN
    rw [show i + d + 1 = i + 1 + d by omega]
    exact this
theorem par_s (S : Sim l l' d N) : ∀ (f : Nat) (first : Bool) (b : Int) (i : Nat) (r : Fo × Nat × Int), parL l f first b i = some r → r.2.2 < 0 → r.2.1 + 1 ≤ N → Alike d r (parL l' f first b (i + d)) := by
  intro f
  induction f with
  | zero => intro first b i r h; rw [parL] at h; cases h
  | succ f ih =>
    intro first b i r h hr hN
    have hgo := (par_apt _ _ _ _ _ h hr).2
    rw [parL] at h
    rw [parL, S.m i (by omega)]
    by_cases c1 : b < 0 ∧ ¬(first = true ∧ isM l i sParS = true)
    · rw [if_pos c1] at h ⊢
      obtain ⟨t, ht, h⟩ := Option.bind_eq_some_iff.1 h
      have key : t.2.2 < 0 → t.2.1 + 1 ≤ N → ∃ k', typedM l' f (wordM l' b ⟨5, i + d, 0, e0, 0⟩ (i + d)).2.2 (wordM l' b ⟨5, i + d, 0, e0, 0⟩ (i + d)).2.1 = some (k', t.2.1 + d, t.2.2) ∧
          Eqv false (.one { (wordM l b ⟨5, i, 0, e0, 0⟩ i).1 with til := t.2.1 } t.1) (.one { (wordM l' b ⟨5, i + d, 0, e0, 0⟩ (i + d)).1 with til := t.2.1 + d } k') := fun hg hn => by
        have p4 := (typed_apt ht hg).2
        have g1 := typed_was ht hg
        obtain ⟨_, e1, w1, n1⟩ := word_s S g1 (by omega)
        obtain ⟨k1, y1, z1⟩ := typed_s S ht hg hn
        rw [e1] at y1
        dsimp only at *
        rw [w1]
        refine ⟨k1, y1, ?_⟩
        rw [e1]
        exact Eqv.one rfl rfl z1
      dsimp only at *
      by_cases c2 : 0 ≤ t.2.2 ∨ isM l t.2.1 sParS = true
      · rw [if_pos c2] at h
        injection h with h; subst h
        dsimp only at hN hr
        obtain ⟨k', y1, z1⟩ := key hr hN
        rw [y1, Option.bind_some]
        dsimp only
        rw [S.m t.2.1 (by omega), if_pos c2]
        exact ⟨_, rfl, z1⟩
      · rw [if_neg c2] at h
        obtain ⟨x, hx, h⟩ := Option.map_eq_some_iff.1 h
        subst h
        dsimp only at hN hr
        have p4 := (par_apt _ _ _ _ _ hx hr).2
        have g4 := parL_was hx hr
        obtain ⟨g3, e3, w3, n3⟩ := want_s S g4 (by omega)
        obtain ⟨k', y1, z1⟩ := key g3 (by omega)
        obtain ⟨k2, y2, z2⟩ := ih _ _ _ _ hx hr hN
        rw [e3] at y2
        rw [y1, Option.bind_some]
        dsimp only at *
        rw [S.m t.2.1 (by omega), if_neg c2, w3]
        dsimp only
        rw [y2]
        exact ⟨_, rfl, Eqv.app z1 z2⟩
    · rw [if_neg c1] at h ⊢
      injection h with h; subst h
      exact ⟨_, rfl, trivial⟩
theorem params_s (S : Sim l l' d N) {f : Nat} {b : Int} {i : Nat} {r : Fo × Nat × Int} (h : paramsM l f b i = some r) (hr : r.2.2 < 0) (hN : r.2.1 + 1 ≤ N) : Alike d r (paramsM l' f b (i + d)) := by
  unfold paramsM at h ⊢
  obtain ⟨x, hx, h⟩ := Option.bind_eq_some_iff.1 h
  injection h with h; subst h
  dsimp only at hN hr
  obtain ⟨g2, e2, w2, n2⟩ := want_s S hr (by omega)
  have p2 := (par_apt _ _ _ _ _ hx g2).2
  have g1 := parL_was hx g2
  obtain ⟨_, e1, w1, n1⟩ := want_s S g1 (by omega)
  obtain ⟨k1, y1, z1⟩ := par_s S _ _ _ _ _ hx g2 (by omega)
  rw [e1] at y1
  dsimp only at *
  rw [w1]
  dsimp only
  rw [y1, Option.bind_some]
  dsimp only
  rw [w2, e2]
  exact ⟨_, rfl, Eqv.one rfl rfl z1⟩
end Ps
end Go.Proofs.YthlkjfkgdijfdaaGreatDoor
