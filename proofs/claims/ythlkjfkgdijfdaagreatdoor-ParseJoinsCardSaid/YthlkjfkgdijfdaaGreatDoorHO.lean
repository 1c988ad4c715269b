/- Mathematics: the same tokens elsewhere are read alike: expressions, statements, items. -/
import Derived.Test.YthlkjfkgdijfdaaGreatDoorHN
namespace Go.Proofs.YthlkjfkgdijfdaaGreatDoor
namespace Ps
open Pg
variable {l l' : List Tok} {d N : Nat}
def accOf : XT → Fo
  | .sumL a | .termL a | .postL a => a
  | _ => .nil
def withA : XT → Fo → XT
  | .sumL _, a => .sumL a
  | .termL _, a => .termL a
  | .postL _, a => .postL a
  | t, _ => t
def lkX : XT → Nat
  | .lambda | .block => 0
  | _ => 1
theorem Alike.of {r : Fo × Nat × Int} {o : Res} {k' : Fo} {j : Nat} {b : Int} (h : o = some (k', j, b)) (hj : j = r.2.1 + d) (hb : b = r.2.2) (hk : Eqv false r.1 k') : Alike d r o := ⟨k', by rw [h, hj, hb], hk⟩
theorem ex_s (S : Sim l l' d N) : ∀ (f : Nat) (t : XT) (b : Int) (i : Nat) (r : Fo × Nat × Int) (a' : Fo), exM l f t b i = some r → r.2.2 < 0 → r.2.1 + lkX t ≤ N → Eqv false (accOf t) a' → Alike d r (exM l' f (withA t a') b (i + d)) := by
  intro f
  induction f with
  | zero => intro t b i r a' h; rw [exM] at h; cases h
  | succ f ih =>
    intro t b i r a' h hr hN ha
    have hb := exM_was h hr
    have hgo := ex_go _ _ _ _ _ h hr
    have on1 : i + d + 1 = i + 1 + d := by omega
    cases t with
    | lambda =>
      simp only [lkX] at hN
      simp only [withA]
      rw [exM] at h ⊢
      obtain ⟨p, h1, h⟩ := Option.bind_eq_some_iff.1 h
      obtain ⟨t, h2, h⟩ := Option.bind_eq_some_iff.1 h
      obtain ⟨k, h3, h⟩ := Option.bind_eq_some_iff.1 h
      injection h with h; subst h
      dsimp only at hN hr
      have q3 := ex_go _ _ _ _ _ h3 hr
      simp only [sX] at q3
      have g2 := exM_was h3 hr
      have q2 := (typed_apt h2 g2).2
      have g1 := typed_was h2 g2
      obtain ⟨k1, y1, z1⟩ := params_s S h1 g1 (by omega)
      obtain ⟨k2, y2, z2⟩ := typed_s S h2 g2 (by omega)
      obtain ⟨k3, y3, z3⟩ := ih _ _ _ _ .nil h3 hr (by simp only [lkX]; omega) trivial
      simp only [withA] at y3
      rw [y1, Option.bind_some]
      dsimp only
      rw [y2, Option.bind_some]
      dsimp only
      rw [y3, Option.bind_some]
      exact ⟨_, rfl, Eqv.app z1 (Eqv.app z2 z3)⟩
    | block =>
      simp only [lkX] at hN
      simp only [withA]
      rw [exM] at h ⊢
      obtain ⟨x, h1, h⟩ := Option.bind_eq_some_iff.1 h
      injection h with h; subst h
      dsimp only at hN hr
      obtain ⟨g2, e2, w2, n2⟩ := want_s S hr (by omega)
      rw [e2] at hN
      have p2 := ex_go _ _ _ _ _ h1 g2
      simp only [sX] at p2
      have g1 := exM_was h1 g2
      dsimp only at hN
      obtain ⟨_, e1, w1, n1⟩ := want_s S g1 (by omega)
      obtain ⟨k1, y1, z1⟩ := ih _ _ _ _ .nil h1 g2 (by simp only [lkX]; omega) trivial
      simp only [withA] at y1
      rw [e1] at y1
      dsimp only at *
      rw [w1]
      dsimp only
      rw [y1, Option.bind_some]
      dsimp only
      rw [w2, e2]
      exact ⟨_, rfl, Eqv.one rfl rfl z1⟩
    | stmts =>
      simp only [lkX, sX] at hN hgo
      simp only [withA]
      rw [exM] at h ⊢
      rw [S.m i (by omega)]
      by_cases c : b < 0 ∧ ¬isM l i sShut = true
      · rw [if_pos c] at h ⊢
        obtain ⟨x, h1, h⟩ := Option.bind_eq_some_iff.1 h
        obtain ⟨y, h2, h⟩ := Option.map_eq_some_iff.1 h
        subst h
        dsimp only at hN hr
        have g1 := exM_was h2 hr
        have p2 := ex_go _ _ _ _ _ h2 hr
        obtain ⟨k1, y1, z1⟩ := ih _ _ _ _ .nil h1 g1 (by simp only [lkX]; omega) trivial
        obtain ⟨k2, y2, z2⟩ := ih _ _ _ _ .nil h2 hr (by simp only [lkX]; omega) trivial
        simp only [withA] at y1 y2
        rw [y1, Option.bind_some]
        dsimp only
        rw [y2]
        exact ⟨_, rfl, Eqv.app z1 z2⟩
      · rw [if_neg c] at h ⊢
        injection h with h; subst h
        exact ⟨_, rfl, trivial⟩
    | stmt =>
      simp only [lkX, sX] at hN hgo
      simp only [withA]
      rw [exM] at h ⊢
      rw [S.m i (by omega), S.m i (by omega), S.m i (by omega)]
      by_cases c1 : isM l i kIf = true
      · rw [if_pos c1] at h ⊢
        obtain ⟨c, hc, h⟩ := Option.bind_eq_some_iff.1 h
        obtain ⟨k, hk, h⟩ := Option.bind_eq_some_iff.1 h
        have tail : k.2.2 < 0 → k.2.1 + 1 ≤ N → ∃ k1 k2, exM l' f .expr b (i + d + 1) = some (k1, c.2.1 + d, c.2.2) ∧ exM l' f .block c.2.2 (c.2.1 + d) = some (k2, k.2.1 + d, k.2.2) ∧ Eqv false c.1 k1 ∧ Eqv false k.1 k2 := fun gk nk => by
          have p2 := ex_go _ _ _ _ _ hk gk
          simp only [sX] at p2
          obtain ⟨k1, y1, z1⟩ := ih _ _ _ _ .nil hc (exM_was hk gk) (by simp only [lkX]; omega) trivial
          obtain ⟨k2, y2, z2⟩ := ih _ _ _ _ .nil hk gk (by simp only [lkX]; omega) trivial
          simp only [withA] at y1 y2
          exact ⟨k1, k2, by rw [on1]; exact y1, y2, z1, z2⟩
        by_cases c2 : k.2.2 < 0 ∧ isM l k.2.1 kElse = true
        · rw [if_pos c2] at h
          obtain ⟨o, ho, h⟩ := Option.bind_eq_some_iff.1 h
          injection h with h; subst h
          dsimp only at hN hr
          have p3 := ex_go _ _ _ _ _ ho hr
          simp only [sX] at p3
          obtain ⟨k1, k2, y1, y2, z1, z2⟩ := tail c2.1 (by omega)
          obtain ⟨k3, y3, z3⟩ := ih _ _ _ _ .nil ho hr (by simp only [lkX]; omega) trivial
          simp only [withA] at y3
          rw [y1, Option.bind_some]
          dsimp only
          rw [y2, Option.bind_some]
          dsimp only
          rw [S.m k.2.1 (by omega), if_pos c2, show k.2.1 + d + 1 = k.2.1 + 1 + d by omega, y3, Option.bind_some]
          exact ⟨_, rfl, Eqv.one rfl rfl (Eqv.app z1 (Eqv.app z2 z3))⟩
        · rw [if_neg c2] at h
          injection h with h; subst h
          dsimp only at hN hr
          obtain ⟨k1, k2, y1, y2, z1, z2⟩ := tail hr hN
          rw [y1, Option.bind_some]
          dsimp only
          rw [y2, Option.bind_some]
          dsimp only
          rw [S.m k.2.1 (by omega), if_neg c2]
          exact ⟨_, rfl, Eqv.one rfl rfl (Eqv.app z1 (Eqv.app z2 (Eqv.refl _ _)))⟩
      · rw [if_neg c1] at h ⊢
        by_cases c2 : isM l i kWhile = true
        · rw [if_pos c2] at h ⊢
          obtain ⟨c, hc, h⟩ := Option.bind_eq_some_iff.1 h
          obtain ⟨k, hk, h⟩ := Option.bind_eq_some_iff.1 h
          injection h with h; subst h
          dsimp only at hN hr
          have p2 := ex_go _ _ _ _ _ hk hr
          simp only [sX] at p2
          obtain ⟨k1, y1, z1⟩ := ih _ _ _ _ .nil hc (exM_was hk hr) (by simp only [lkX]; omega) trivial
          obtain ⟨k2, y2, z2⟩ := ih _ _ _ _ .nil hk hr (by simp only [lkX]; omega) trivial
          simp only [withA] at y1 y2
          rw [on1, y1, Option.bind_some]
          dsimp only
          rw [y2, Option.bind_some]
          exact ⟨_, rfl, Eqv.one rfl rfl (Eqv.app z1 z2)⟩
        · rw [if_neg c2] at h ⊢
          by_cases c3 : isM l i kLet = true
          · rw [if_pos c3] at h ⊢
            obtain ⟨t, ht, h⟩ := Option.bind_eq_some_iff.1 h
            obtain ⟨v, hv, h⟩ := Option.bind_eq_some_iff.1 h
            injection h with h; subst h
            dsimp only at hN hr
            obtain ⟨g3, e3, w3, n3⟩ := want_s S hr (by omega)
            have p3 := ex_go _ _ _ _ _ hv g3
            simp only [sX] at p3
            have g2 := exM_was hv g3
            obtain ⟨g1, e2, w2, n2⟩ := want_s S g2 (by omega)
            rw [e2] at p3
            dsimp only at p3
            have p1 := (typed_apt ht g1).2
            have g0 := typed_was ht g1
            obtain ⟨_, e1, w1, n1⟩ := word_s S g0 (by omega)
            rw [e3] at hN
            dsimp only at hN
            obtain ⟨k1, y1, z1⟩ := typed_s S ht g1 (by omega)
            obtain ⟨k2, y2, z2⟩ := ih _ _ _ _ .nil hv g3 (by simp only [lkX]; omega) trivial
            simp only [withA] at y2
            rw [e1] at y1
            rw [e2] at y2
            dsimp only at *
            rw [on1, w1]
            dsimp only
            rw [y1, Option.bind_some]
            dsimp only
            rw [w2]
            dsimp only
            rw [y2, Option.bind_some]
            dsimp only
            rw [w3, e3, e1]
            exact ⟨_, rfl, Eqv.one rfl rfl (Eqv.app z1 z2)⟩
          · rw [if_neg c3] at h ⊢
            dsimp only at h ⊢
            rw [S.m i (by omega), S.m i (by omega), S.k i (by omega), on1, S.m (i + 1) (by omega)]
            obtain ⟨x, x', hx, hx', q1, q2, q3, q4⟩ : ∃ x x' : Hd × Nat × Int,
                (if isM l i kPrint = true then ((⟨11, i, 0, e0, 0⟩ : Hd), i + 1, b) else if isM l i kReturn = true then (⟨12, i, 0, e0, 0⟩, i + 1, b) else if kindAt l i = 1 ∧ isM l (i + 1) sEq = true then ((wordM l b ⟨8, i, 0, e0, 0⟩ i).1, (wordM l b ⟨8, i, 0, e0, 0⟩ i).2.1 + 1, (wordM l b ⟨8, i, 0, e0, 0⟩ i).2.2) else (⟨13, i, 0, e0, 0⟩, i, b)) = x ∧
                (if isM l i kPrint = true then ((⟨11, i + d, 0, e0, 0⟩ : Hd), i + 1 + d, b) else if isM l i kReturn = true then (⟨12, i + d, 0, e0, 0⟩, i + 1 + d, b) else if kindAt l i = 1 ∧ isM l (i + 1) sEq = true then ((wordM l' b ⟨8, i + d, 0, e0, 0⟩ (i + d)).1, (wordM l' b ⟨8, i + d, 0, e0, 0⟩ (i + d)).2.1 + 1, (wordM l' b ⟨8, i + d, 0, e0, 0⟩ (i + d)).2.2) else (⟨13, i + d, 0, e0, 0⟩, i + d, b)) = x' ∧
                x'.1.kind = x.1.kind ∧ x'.1.word = x.1.word ∧ x'.2.1 = x.2.1 + d ∧ x'.2.2 = x.2.2 := by
              by_cases d1 : isM l i kPrint = true
              · rw [if_pos d1, if_pos d1]; exact ⟨_, _, rfl, rfl, rfl, rfl, rfl, rfl⟩
              · rw [if_neg d1, if_neg d1]
                by_cases d2 : isM l i kReturn = true
                · rw [if_pos d2, if_pos d2]; exact ⟨_, _, rfl, rfl, rfl, rfl, rfl, rfl⟩
                · rw [if_neg d2, if_neg d2]
                  by_cases d3 : kindAt l i = 1 ∧ isM l (i + 1) sEq = true
                  · rw [if_pos d3, if_pos d3]
                    have hw : wordM l b ⟨8, i, 0, e0, 0⟩ i = (⟨8, i, 0, textAt l i, i⟩, i + 1, b) := by unfold wordM; rw [if_neg (by omega), if_pos d3.1]
                    have hw' : wordM l' b ⟨8, i + d, 0, e0, 0⟩ (i + d) = (⟨8, i + d, 0, textAt l i, i + d⟩, i + d + 1, b) := by unfold wordM; rw [if_neg (by omega), S.k i (by omega), if_pos d3.1, S.t i (by omega)]
                    rw [hw, hw']
                    exact ⟨_, _, rfl, rfl, rfl, rfl, by dsimp only; omega, rfl⟩
                  · rw [if_neg d3, if_neg d3]; exact ⟨_, _, rfl, rfl, rfl, rfl, rfl, rfl⟩
            rw [hx] at h
            rw [hx']
            obtain ⟨v, hv, h⟩ := Option.bind_eq_some_iff.1 h
            injection h with h; subst h
            dsimp only at hN hr
            obtain ⟨g1, e1, w1, n1⟩ := want_s S hr (by omega)
            rw [e1] at hN
            dsimp only at hN
            obtain ⟨k1, y1, z1⟩ := ih _ _ _ _ .nil hv g1 (by simp only [lkX]; omega) trivial
            simp only [withA] at y1
            rw [q3, q4, y1, Option.bind_some]
            dsimp only
            rw [w1, e1]
            exact ⟨_, rfl, Eqv.one q1.symm q2.symm z1⟩
    | expr =>
      simp only [lkX, sX] at hN hgo
      simp only [withA]
      rw [exM] at h ⊢
      obtain ⟨a, h1, h⟩ := Option.bind_eq_some_iff.1 h
      by_cases c1 : 0 ≤ a.2.2 ∨ (¬isM l a.2.1 sLess = true ∧ ¬isM l a.2.1 sEqEq = true)
      · rw [if_pos c1] at h
        injection h with h; subst h
        obtain ⟨k1, y1, z1⟩ := ih _ _ _ _ .nil h1 hr (by simp only [lkX]; omega) trivial
        simp only [withA] at y1
        rw [y1, Option.bind_some]
        dsimp only
        rw [S.m a.2.1 (by omega), S.m a.2.1 (by omega), if_pos c1]
        exact ⟨_, rfl, z1⟩
      · rw [if_neg c1] at h
        obtain ⟨c, h2, h⟩ := Option.bind_eq_some_iff.1 h
        injection h with h; subst h
        dsimp only at hN hr
        have p2 := ex_go _ _ _ _ _ h2 hr
        simp only [sX] at p2
        obtain ⟨k1, y1, z1⟩ := ih _ _ _ _ .nil h1 (exM_was h2 hr) (by simp only [lkX]; omega) trivial
        obtain ⟨k2, y2, z2⟩ := ih _ _ _ _ .nil h2 hr (by simp only [lkX]; omega) trivial
        simp only [withA] at y1 y2
        rw [y1, Option.bind_some]
        dsimp only
        rw [S.m a.2.1 (by omega), S.m a.2.1 (by omega), if_neg c1, show a.2.1 + d + 1 = a.2.1 + 1 + d by omega, y2, Option.bind_some]
        exact ⟨_, rfl, Eqv.one rfl rfl (Eqv.app z1 z2)⟩
    | sum =>
      simp only [lkX, sX] at hN hgo
      simp only [withA]
      rw [exM] at h ⊢
      obtain ⟨a, h1, h⟩ := Option.bind_eq_some_iff.1 h
      have p2 := ex_go _ _ _ _ _ h hr
      simp only [sX] at p2
      obtain ⟨k1, y1, z1⟩ := ih _ _ _ _ .nil h1 (exM_was h hr) (by simp only [lkX]; omega) trivial
      simp only [withA] at y1
      rw [y1, Option.bind_some]
      exact ih _ _ _ _ k1 h hr (by simp only [lkX]; omega) z1
    | term =>
      simp only [lkX, sX] at hN hgo
      simp only [withA]
      rw [exM] at h ⊢
      obtain ⟨a, h1, h⟩ := Option.bind_eq_some_iff.1 h
      have p2 := ex_go _ _ _ _ _ h hr
      simp only [sX] at p2
      obtain ⟨k1, y1, z1⟩ := ih _ _ _ _ .nil h1 (exM_was h hr) (by simp only [lkX]; omega) trivial
      simp only [withA] at y1
      rw [y1, Option.bind_some]
      exact ih _ _ _ _ k1 h hr (by simp only [lkX]; omega) z1
    | post =>
      simp only [lkX, sX] at hN hgo
      simp only [withA]
      rw [exM] at h ⊢
      obtain ⟨a, h1, h⟩ := Option.bind_eq_some_iff.1 h
      have p2 := ex_go _ _ _ _ _ h hr
      simp only [sX] at p2
      obtain ⟨k1, y1, z1⟩ := ih _ _ _ _ .nil h1 (exM_was h hr) (by simp only [lkX]; omega) trivial
      simp only [withA] at y1
      rw [y1, Option.bind_some]
      exact ih _ _ _ _ k1 h hr (by simp only [lkX]; omega) z1
    | sumL a =>
      simp only [lkX, sX] at hN hgo
      simp only [withA]
      rw [exM] at h ⊢
      rw [S.m i (by omega), S.m i (by omega)]
      by_cases c1 : b < 0 ∧ (isM l i sPlus = true ∨ isM l i sMinus = true)
      · rw [if_pos c1] at h ⊢
        obtain ⟨c, h1, h⟩ := Option.bind_eq_some_iff.1 h
        have p2 := ex_go _ _ _ _ _ h hr
        simp only [sX] at p2
        obtain ⟨k1, y1, z1⟩ := ih _ _ _ _ .nil h1 (exM_was h hr) (by simp only [lkX]; omega) trivial
        simp only [withA] at y1
        rw [on1, y1, Option.bind_some]
        exact ih _ _ _ _ _ h hr (by simp only [lkX]; omega) (Eqv.one rfl rfl (Eqv.app ha z1))
      · rw [if_neg c1] at h ⊢
        injection h with h; subst h
        exact ⟨_, rfl, ha⟩
    | termL a =>
      simp only [lkX, sX] at hN hgo
      simp only [withA]
      rw [exM] at h ⊢
      rw [S.m i (by omega)]
      by_cases c1 : b < 0 ∧ isM l i sStar = true
      · rw [if_pos c1] at h ⊢
        obtain ⟨c, h1, h⟩ := Option.bind_eq_some_iff.1 h
        have p2 := ex_go _ _ _ _ _ h hr
        simp only [sX] at p2
        obtain ⟨k1, y1, z1⟩ := ih _ _ _ _ .nil h1 (exM_was h hr) (by simp only [lkX]; omega) trivial
        simp only [withA] at y1
        rw [on1, y1, Option.bind_some]
        exact ih _ _ _ _ _ h hr (by simp only [lkX]; omega) (Eqv.one rfl rfl (Eqv.app ha z1))
      · rw [if_neg c1] at h ⊢
        injection h with h; subst h
        exact ⟨_, rfl, ha⟩
    | postL a =>
      simp only [lkX, sX] at hN hgo
      simp only [withA]
      rw [exM] at h ⊢
      rw [S.m i (by omega), S.m i (by omega)]
      by_cases c1 : b < 0 ∧ (isM l i sDot = true ∨ isM l i sParO = true)
      · rw [if_pos c1] at h ⊢
        by_cases c2 : isM l i sDot = true
        · rw [if_pos c2] at h ⊢
          dsimp only at h ⊢
          have p2 := ex_go _ _ _ _ _ h hr
          simp only [sX] at p2
          obtain ⟨_, e1, w1, n1⟩ := word_s S (exM_was h hr) (by omega)
          rw [e1] at h
          rw [on1, w1]
          exact ih _ _ _ _ _ h hr (by simp only [lkX]; omega) (Eqv.one rfl rfl ha)
        · rw [if_neg c2] at h ⊢
          obtain ⟨k, h1, h⟩ := Option.bind_eq_some_iff.1 h
          have p2 := ex_go _ _ _ _ _ h hr
          simp only [sX] at p2
          obtain ⟨g1, e1, w1, n1⟩ := want_s S (exM_was h hr) (by omega)
          obtain ⟨k1, y1, z1⟩ := ih _ _ _ _ .nil h1 g1 (by simp only [lkX]; omega) trivial
          simp only [withA] at y1
          rw [on1, y1, Option.bind_some]
          dsimp only at h ⊢
          rw [e1] at h
          rw [w1]
          exact ih _ _ _ _ _ h hr (by simp only [lkX]; omega) (Eqv.one rfl rfl (Eqv.app ha z1))
      · rw [if_neg c1] at h ⊢
        injection h with h; subst h
        exact ⟨_, rfl, ha⟩
    | args first =>
      simp only [lkX, sX] at hN hgo
      simp only [withA]
      rw [exM] at h ⊢
      rw [S.m i (by omega)]
      by_cases c1 : b < 0 ∧ ¬(first = true ∧ isM l i sParS = true)
      · rw [if_pos c1] at h ⊢
        obtain ⟨t, ht, h⟩ := Option.bind_eq_some_iff.1 h
        by_cases c2 : 0 ≤ t.2.2 ∨ isM l t.2.1 sParS = true
        · rw [if_pos c2] at h
          injection h with h; subst h
          dsimp only at hN hr
          obtain ⟨k', y1, z1⟩ := ih _ _ _ _ .nil ht hr (by simp only [lkX]; omega) trivial
          simp only [withA] at y1
          rw [y1, Option.bind_some]
          dsimp only
          rw [S.m t.2.1 (by omega), if_pos c2]
          exact ⟨_, rfl, z1⟩
        · rw [if_neg c2] at h
          obtain ⟨x, hx, h⟩ := Option.map_eq_some_iff.1 h
          subst h
          dsimp only at hN hr
          have p4 := ex_go _ _ _ _ _ hx hr
          obtain ⟨g3, e3, w3, n3⟩ := want_s S (exM_was hx hr) (by omega)
          obtain ⟨k', y1, z1⟩ := ih _ _ _ _ .nil ht g3 (by simp only [lkX]; omega) trivial
          obtain ⟨k2, y2, z2⟩ := ih _ _ _ _ .nil hx hr (by simp only [lkX]; omega) trivial
          simp only [withA] at y1 y2
          rw [e3] at y2
          rw [y1, Option.bind_some]
          dsimp only at *
          rw [S.m t.2.1 (by omega), if_neg c2, w3]
          dsimp only
          rw [y2]
          exact ⟨_, rfl, Eqv.app z1 z2⟩
      · rw [if_neg c1] at h ⊢
        injection h with h; subst h
        exact ⟨_, rfl, trivial⟩
    | atom =>
      simp only [lkX, sX] at hN hgo
      simp only [withA]
      rw [exM, if_neg (by omega)] at h
      rw [exM, if_neg (by omega), S.k i (by omega), S.m i (by omega), S.m i (by omega), S.m i (by omega), S.t i (by omega), on1]
      by_cases c1 : kindAt l i = 3
      · rw [if_pos c1] at h ⊢
        injection h with h; subst h
        exact ⟨.one ⟨21, i + d, i + 1 + d, textAt l i, i + d⟩ .nil, rfl, Eqv.one rfl rfl trivial⟩
      · rw [if_neg c1] at h ⊢
        by_cases c2 : kindAt l i = 4
        · rw [if_pos c2] at h ⊢
          injection h with h; subst h
          exact ⟨.one ⟨22, i + d, i + 1 + d, textAt l i, i + d⟩ .nil, rfl, Eqv.one rfl rfl trivial⟩
        · rw [if_neg c2] at h ⊢
          by_cases c3 : kindAt l i = 1
          · rw [if_pos c3] at h ⊢
            injection h with h; subst h
            exact ⟨.one ⟨23, i + d, i + 1 + d, textAt l i, i + d⟩ .nil, rfl, Eqv.one rfl rfl trivial⟩
          · rw [if_neg c3] at h ⊢
            by_cases c4 : isM l i kInput = true
            · rw [if_pos c4] at h ⊢
              injection h with h; subst h
              exact ⟨.one ⟨24, i + d, i + 1 + d, e0, 0⟩ .nil, rfl, Eqv.one rfl rfl trivial⟩
            · rw [if_neg c4] at h ⊢
              by_cases c5 : isM l i sParO = true
              · rw [if_pos c5] at h ⊢
                obtain ⟨x, h1, h⟩ := Option.bind_eq_some_iff.1 h
                injection h with h; subst h
                dsimp only at hN hr
                obtain ⟨g1, e1, w1, n1⟩ := want_s S hr (by omega)
                obtain ⟨k1, y1, z1⟩ := ih _ _ _ _ .nil h1 g1 (by simp only [lkX]; omega) trivial
                simp only [withA] at y1
                rw [y1, Option.bind_some]
                dsimp only
                rw [w1, e1]
                exact ⟨_, rfl, Eqv.one rfl rfl z1⟩
              · rw [if_neg c5] at h ⊢
                by_cases c6 : isM l i sOpen = true
                · rw [if_pos c6] at h ⊢
                  obtain ⟨x, h1, h⟩ := Option.bind_eq_some_iff.1 h
                  injection h with h; subst h
                  dsimp only at hN hr
                  obtain ⟨g1, e1, w1, n1⟩ := want_s S hr (by omega)
                  obtain ⟨k1, y1, z1⟩ := ih _ _ _ _ .nil h1 g1 (by simp only [lkX]; omega) trivial
                  simp only [withA] at y1
                  rw [y1, Option.bind_some]
                  dsimp only
                  rw [w1, e1]
                  exact ⟨_, rfl, Eqv.one rfl rfl z1⟩
                · rw [if_neg c6] at h ⊢
                  obtain ⟨x, h1, h⟩ := Option.bind_eq_some_iff.1 h
                  injection h with h; subst h
                  dsimp only at hN hr
                  have p2 := ex_go _ _ _ _ _ h1 hr
                  simp only [sX] at p2
                  obtain ⟨_, e1, w1, n1⟩ := want_s S (exM_was h1 hr) (by omega)
                  obtain ⟨k1, y1, z1⟩ := ih _ _ _ _ .nil h1 hr (by simp only [lkX]; omega) trivial
                  simp only [withA] at y1
                  rw [e1] at y1
                  dsimp only at *
                  rw [w1]
                  dsimp only
                  rw [y1, Option.bind_some]
                  exact ⟨_, rfl, Eqv.one rfl rfl z1⟩
    | entries first =>
      simp only [lkX, sX] at hN hgo
      simp only [withA]
      rw [exM] at h ⊢
      rw [S.m i (by omega)]
      by_cases c1 : b < 0 ∧ ¬(first = true ∧ isM l i sShut = true)
      · rw [if_pos c1] at h ⊢
        obtain ⟨t, ht, h⟩ := Option.bind_eq_some_iff.1 h
        have key : t.2.2 < 0 → t.2.1 + 1 ≤ N → ∃ k', exM l' f .expr (wantM l' (wordM l' b ⟨27, i + d, 0, e0, 0⟩ (i + d)).2.2 (wordM l' b ⟨27, i + d, 0, e0, 0⟩ (i + d)).2.1 sCol).2 (wantM l' (wordM l' b ⟨27, i + d, 0, e0, 0⟩ (i + d)).2.2 (wordM l' b ⟨27, i + d, 0, e0, 0⟩ (i + d)).2.1 sCol).1 = some (k', t.2.1 + d, t.2.2) ∧
            Eqv false (.one { (wordM l b ⟨27, i, 0, e0, 0⟩ i).1 with til := t.2.1 } t.1) (.one { (wordM l' b ⟨27, i + d, 0, e0, 0⟩ (i + d)).1 with til := t.2.1 + d } k') := fun hg hn => by
          have p4 := ex_go _ _ _ _ _ ht hg
          simp only [sX] at p4
          obtain ⟨g1, e2, w2, n2⟩ := want_s S (exM_was ht hg) (by omega)
          obtain ⟨_, e1, w1, n1⟩ := word_s S g1 (by omega)
          obtain ⟨k1, y1, z1⟩ := ih _ _ _ _ .nil ht hg (by simp only [lkX]; omega) trivial
          simp only [withA] at y1
          rw [e2] at y1
          rw [e1] at w2 y1
          dsimp only at *
          rw [w1]
          dsimp only
          rw [w2]
          refine ⟨k1, y1, ?_⟩
          rw [e1]
          exact Eqv.one rfl rfl z1
        dsimp only at *
        by_cases c2 : 0 ≤ t.2.2 ∨ isM l t.2.1 sShut = true
        · rw [if_pos c2] at h
          injection h with h; subst h
          dsimp only at hN hr
          obtain ⟨k', y1, z1⟩ := key hr hN
          rw [y1, Option.bind_some]
          dsimp only
          rw [S.m t.2.1 (by omega), if_pos c2]
          exact ⟨_, rfl, z1⟩
        · rw [if_neg c2] at h
          obtain ⟨x, hx, h⟩ := Option.map_eq_some_iff.1 h
          subst h
          dsimp only at hN hr
          have p4 := ex_go _ _ _ _ _ hx hr
          obtain ⟨g3, e3, w3, n3⟩ := want_s S (exM_was hx hr) (by omega)
          obtain ⟨k', y1, z1⟩ := key g3 (by omega)
          obtain ⟨k2, y2, z2⟩ := ih _ _ _ _ .nil hx hr (by simp only [lkX]; omega) trivial
          simp only [withA] at y2
          rw [e3] at y2
          rw [y1, Option.bind_some]
          dsimp only at *
          rw [S.m t.2.1 (by omega), if_neg c2, w3]
          dsimp only
          rw [y2]
          exact ⟨_, rfl, Eqv.app z1 z2⟩
      · rw [if_neg c1] at h ⊢
        injection h with h; subst h
        exact ⟨_, rfl, trivial⟩
end Ps
end Go.Proofs.YthlkjfkgdijfdaaGreatDoor
