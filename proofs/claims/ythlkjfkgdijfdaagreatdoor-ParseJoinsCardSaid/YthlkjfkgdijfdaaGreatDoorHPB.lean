/- Mathematics: where no fault was met, the sign of it is as it was. -/
import Derived.Test.YthlkjfkgdijfdaaGreatDoorHP
namespace Go.Proofs.YthlkjfkgdijfdaaGreatDoor
namespace Ps
open Pg
variable {l : List Tok}
theorem lt_by {a b : Int} (h : a = b) (g : a < 0) : b < 0 := h ▸ g
theorem want_b {b : Int} {i : Nat} {x : List UInt8} (h : (wantM l b i x).2 < 0) : (wantM l b i x).2 = b := by
  obtain ⟨_, _, e⟩ := wantM_good h
  rw [e]
theorem word_b {b : Int} {i : Nat} {hd : Hd} (h : (wordM l b hd i).2.2 < 0) : (wordM l b hd i).2.2 = b := by
  obtain ⟨_, _, e⟩ := wordM_good h
  rw [e]
theorem ty_b : ∀ (f : Nat) (t : TT) (b : Int) (i : Nat) (r : Fo × Nat × Int), tyM l f t b i = some r → r.2.2 < 0 → r.2.2 = b := by
  intro f
  induction f with
  | zero => intro t b i r h; rw [tyM] at h; cases h
  | succ f ih =>
    intro t b i r h hr
    cases t with
    | kind =>
      rw [tyM] at h
      split at h
      · injection h with h; subst h; rfl
      · split at h
        · injection h with h; subst h; rfl
        · split at h
          · injection h with h; subst h; rfl
          · split at h
            · injection h with h; subst h; rfl
            · split at h
              · obtain ⟨x, hx, h⟩ := Option.bind_eq_some_iff.1 h
                injection h with h; subst h
                have g := want_b hr
                exact g.trans (ih _ _ _ _ hx (lt_by g hr))
              · obtain ⟨x, hx, h⟩ := Option.bind_eq_some_iff.1 h
                obtain ⟨t, ht, h⟩ := Option.bind_eq_some_iff.1 h
                injection h with h; subst h
                have g1 := ih _ _ _ _ ht hr
                have g2 := g1.trans (want_b (lt_by g1 hr))
                have g3 := g2.trans (want_b (lt_by g2 hr))
                have g4 := g3.trans (ih _ _ _ _ hx (lt_by g3 hr))
                have g5 := g4.trans (want_b (lt_by g4 hr))
                exact g5.trans (want_b (lt_by g5 hr))
    | recL first =>
      rw [tyM] at h
      split at h
      · obtain ⟨t, h0, h⟩ := Option.bind_eq_some_iff.1 h
        have ht : t.2.2 < 0 ∧ r.2.2 = t.2.2 := by
          split at h
          · injection h with h; subst h; exact ⟨hr, rfl⟩
          · obtain ⟨x, h1, h⟩ := Option.map_eq_some_iff.1 h
            subst h
            have g1 := ih _ _ _ _ h1 hr
            have g2 := want_b (lt_by g1 hr)
            exact ⟨lt_by (g1.trans g2) hr, g1.trans g2⟩
        have g1 := ih _ _ _ _ h0 ht.1
        have g2 := g1.trans (want_b (lt_by g1 ht.1))
        exact ht.2.trans (g2.trans (word_b (lt_by g2 ht.1)))
      · injection h with h; subst h; rfl
    | fnL first =>
      rw [tyM] at h
      split at h
      · obtain ⟨t, h0, h⟩ := Option.bind_eq_some_iff.1 h
        have ht : t.2.2 < 0 ∧ r.2.2 = t.2.2 := by
          split at h
          · injection h with h; subst h; exact ⟨hr, rfl⟩
          · obtain ⟨x, h1, h⟩ := Option.map_eq_some_iff.1 h
            subst h
            have g1 := ih _ _ _ _ h1 hr
            have g2 := want_b (lt_by g1 hr)
            exact ⟨lt_by (g1.trans g2) hr, g1.trans g2⟩
        exact ht.2.trans (ih _ _ _ _ h0 ht.1)
      · injection h with h; subst h; rfl
theorem typed_b {f : Nat} {b : Int} {i : Nat} {r : Fo × Nat × Int} (h : typedM l f b i = some r) (hr : r.2.2 < 0) : r.2.2 = b := by
  unfold typedM at h
  split at h
  · injection h with h; subst h; rfl
  · exact ty_b _ _ _ _ _ h hr
theorem par_b : ∀ (f : Nat) (first : Bool) (b : Int) (i : Nat) (r : Fo × Nat × Int), parL l f first b i = some r → r.2.2 < 0 → r.2.2 = b := by
  intro f
  induction f with
  | zero => intro first b i r h; rw [parL] at h; cases h
  | succ f ih =>
    intro first b i r h hr
    rw [parL] at h
    split at h
    · obtain ⟨t, h0, h⟩ := Option.bind_eq_some_iff.1 h
      have ht : t.2.2 < 0 ∧ r.2.2 = t.2.2 := by
        split at h
        · injection h with h; subst h; exact ⟨hr, rfl⟩
        · obtain ⟨x, h1, h⟩ := Option.map_eq_some_iff.1 h
          subst h
          have g1 := ih _ _ _ _ h1 hr
          have g2 := want_b (lt_by g1 hr)
          exact ⟨lt_by (g1.trans g2) hr, g1.trans g2⟩
      have g1 := typed_b h0 ht.1
      exact ht.2.trans (g1.trans (word_b (lt_by g1 ht.1)))
    · injection h with h; subst h; rfl
theorem params_b {f : Nat} {b : Int} {i : Nat} {r : Fo × Nat × Int} (h : paramsM l f b i = some r) (hr : r.2.2 < 0) : r.2.2 = b := by
  unfold paramsM at h
  obtain ⟨x, hx, h⟩ := Option.bind_eq_some_iff.1 h
  injection h with h; subst h
  have g1 := want_b hr
  have g2 := g1.trans (par_b _ _ _ _ _ hx (lt_by g1 hr))
  exact g2.trans (want_b (lt_by g2 hr))
theorem ex_b : ∀ (f : Nat) (t : XT) (b : Int) (i : Nat) (r : Fo × Nat × Int), exM l f t b i = some r → r.2.2 < 0 → r.2.2 = b := by
  intro f
  induction f with
  | zero => intro t b i r h; rw [exM] at h; cases h
  | succ f ih =>
    intro t b i r h hr
    cases t with
    | lambda =>
      rw [exM] at h
      obtain ⟨p, h1, h⟩ := Option.bind_eq_some_iff.1 h
      obtain ⟨t, h2, h⟩ := Option.bind_eq_some_iff.1 h
      obtain ⟨k, h3, h⟩ := Option.bind_eq_some_iff.1 h
      injection h with h; subst h
      have g1 := ih _ _ _ _ h3 hr
      have g2 := g1.trans (typed_b h2 (lt_by g1 hr))
      exact g2.trans (params_b h1 (lt_by g2 hr))
    | block =>
      rw [exM] at h
      obtain ⟨x, h1, h⟩ := Option.bind_eq_some_iff.1 h
      injection h with h; subst h
      have g1 := want_b hr
      have g2 := g1.trans (ih _ _ _ _ h1 (lt_by g1 hr))
      exact g2.trans (want_b (lt_by g2 hr))
    | stmts =>
      rw [exM] at h
      split at h
      · obtain ⟨x, h1, h⟩ := Option.bind_eq_some_iff.1 h
        obtain ⟨y, h2, h⟩ := Option.map_eq_some_iff.1 h
        subst h
        have g1 := ih _ _ _ _ h2 hr
        exact g1.trans (ih _ _ _ _ h1 (lt_by g1 hr))
      · injection h with h; subst h; rfl
    | stmt =>
      rw [exM] at h
      split at h
      · obtain ⟨c, h1, h⟩ := Option.bind_eq_some_iff.1 h
        obtain ⟨k, h2, h⟩ := Option.bind_eq_some_iff.1 h
        have ht : k.2.2 < 0 ∧ r.2.2 = k.2.2 := by
          split at h
          · obtain ⟨o, h3, h⟩ := Option.bind_eq_some_iff.1 h
            injection h with h; subst h
            have g1 := ih _ _ _ _ h3 hr
            exact ⟨lt_by g1 hr, g1⟩
          · injection h with h; subst h; exact ⟨hr, rfl⟩
        have g1 := ih _ _ _ _ h2 ht.1
        exact ht.2.trans (g1.trans (ih _ _ _ _ h1 (lt_by g1 ht.1)))
      · split at h
        · obtain ⟨c, h1, h⟩ := Option.bind_eq_some_iff.1 h
          obtain ⟨k, h2, h⟩ := Option.bind_eq_some_iff.1 h
          injection h with h; subst h
          have g1 := ih _ _ _ _ h2 hr
          exact g1.trans (ih _ _ _ _ h1 (lt_by g1 hr))
        · split at h
          · obtain ⟨t, h1, h⟩ := Option.bind_eq_some_iff.1 h
            obtain ⟨v, h2, h⟩ := Option.bind_eq_some_iff.1 h
            injection h with h; subst h
            have g1 := want_b hr
            have g2 := g1.trans (ih _ _ _ _ h2 (lt_by g1 hr))
            have g3 := g2.trans (want_b (lt_by g2 hr))
            have g4 := g3.trans (typed_b h1 (lt_by g3 hr))
            exact g4.trans (word_b (lt_by g4 hr))
          · obtain ⟨v, h2, h⟩ := Option.bind_eq_some_iff.1 h
            injection h with h; subst h
            have g1 := want_b hr
            have g2 := g1.trans (ih _ _ _ _ h2 (lt_by g1 hr))
            have g3 := lt_by g2 hr
            refine g2.trans ?_
            clear g1 g2 h2 hr
            dsimp only at g3 ⊢
            split at g3
            · rename_i c; rw [if_pos c]
            · rename_i c; rw [if_neg c]
              split at g3
              · rename_i c; rw [if_pos c]
              · rename_i c; rw [if_neg c]
                split at g3
                · rename_i c; rw [if_pos c]; exact word_b g3
                · rename_i c; rw [if_neg c]
    | expr =>
      rw [exM] at h
      obtain ⟨a, h1, h⟩ := Option.bind_eq_some_iff.1 h
      have ht : a.2.2 < 0 ∧ r.2.2 = a.2.2 := by
        split at h
        · injection h with h; subst h; exact ⟨hr, rfl⟩
        · obtain ⟨c, h2, h⟩ := Option.bind_eq_some_iff.1 h
          injection h with h; subst h
          have g1 := ih _ _ _ _ h2 hr
          exact ⟨lt_by g1 hr, g1⟩
      exact ht.2.trans (ih _ _ _ _ h1 ht.1)
    | sum =>
      rw [exM] at h
      obtain ⟨a, h1, h⟩ := Option.bind_eq_some_iff.1 h
      have g1 := ih _ _ _ _ h hr
      exact g1.trans (ih _ _ _ _ h1 (lt_by g1 hr))
    | term =>
      rw [exM] at h
      obtain ⟨a, h1, h⟩ := Option.bind_eq_some_iff.1 h
      have g1 := ih _ _ _ _ h hr
      exact g1.trans (ih _ _ _ _ h1 (lt_by g1 hr))
    | post =>
      rw [exM] at h
      obtain ⟨a, h1, h⟩ := Option.bind_eq_some_iff.1 h
      have g1 := ih _ _ _ _ h hr
      exact g1.trans (ih _ _ _ _ h1 (lt_by g1 hr))
    | sumL a =>
      rw [exM] at h
      split at h
      · obtain ⟨a, h1, h⟩ := Option.bind_eq_some_iff.1 h
        have g1 := ih _ _ _ _ h hr
        exact g1.trans (ih _ _ _ _ h1 (lt_by g1 hr))
      · injection h with h; subst h; rfl
    | termL a =>
      rw [exM] at h
      split at h
      · obtain ⟨a, h1, h⟩ := Option.bind_eq_some_iff.1 h
        have g1 := ih _ _ _ _ h hr
        exact g1.trans (ih _ _ _ _ h1 (lt_by g1 hr))
      · injection h with h; subst h; rfl
    | postL a =>
      rw [exM] at h
      split at h
      · split at h
        · have g1 := ih _ _ _ _ h hr
          exact g1.trans (word_b (lt_by g1 hr))
        · obtain ⟨k, h1, h⟩ := Option.bind_eq_some_iff.1 h
          have g1 := ih _ _ _ _ h hr
          have g2 := g1.trans (want_b (lt_by g1 hr))
          exact g2.trans (ih _ _ _ _ h1 (lt_by g2 hr))
      · injection h with h; subst h; rfl
    | args first =>
      rw [exM] at h
      split at h
      · obtain ⟨t, h0, h⟩ := Option.bind_eq_some_iff.1 h
        have ht : t.2.2 < 0 ∧ r.2.2 = t.2.2 := by
          split at h
          · injection h with h; subst h; exact ⟨hr, rfl⟩
          · obtain ⟨x, h1, h⟩ := Option.map_eq_some_iff.1 h
            subst h
            have g1 := ih _ _ _ _ h1 hr
            have g2 := want_b (lt_by g1 hr)
            exact ⟨lt_by (g1.trans g2) hr, g1.trans g2⟩
        exact ht.2.trans (ih _ _ _ _ h0 ht.1)
      · injection h with h; subst h; rfl
    | atom =>
      rw [exM] at h
      split at h
      · injection h with h; subst h; rfl
      · split at h
        · injection h with h; subst h; rfl
        · split at h
          · injection h with h; subst h; rfl
          · split at h
            · injection h with h; subst h; rfl
            · split at h
              · injection h with h; subst h; rfl
              · split at h
                · obtain ⟨x, h1, h⟩ := Option.bind_eq_some_iff.1 h
                  injection h with h; subst h
                  have g1 := want_b hr
                  exact g1.trans (ih _ _ _ _ h1 (lt_by g1 hr))
                · split at h
                  · obtain ⟨x, h1, h⟩ := Option.bind_eq_some_iff.1 h
                    injection h with h; subst h
                    have g1 := want_b hr
                    exact g1.trans (ih _ _ _ _ h1 (lt_by g1 hr))
                  · obtain ⟨x, h1, h⟩ := Option.bind_eq_some_iff.1 h
                    injection h with h; subst h
                    have g1 := ih _ _ _ _ h1 hr
                    exact g1.trans (want_b (lt_by g1 hr))
    | entries first =>
      rw [exM] at h
      split at h
      · obtain ⟨t, h0, h⟩ := Option.bind_eq_some_iff.1 h
        have ht : t.2.2 < 0 ∧ r.2.2 = t.2.2 := by
          split at h
          · injection h with h; subst h; exact ⟨hr, rfl⟩
          · obtain ⟨x, h1, h⟩ := Option.map_eq_some_iff.1 h
            subst h
            have g1 := ih _ _ _ _ h1 hr
            have g2 := want_b (lt_by g1 hr)
            exact ⟨lt_by (g1.trans g2) hr, g1.trans g2⟩
        have g1 := ih _ _ _ _ h0 ht.1
        have g2 := g1.trans (want_b (lt_by g1 ht.1))
        exact ht.2.trans (g2.trans (word_b (lt_by g2 ht.1)))
      · injection h with h; subst h; rfl
theorem def_b {f : Nat} {b : Int} {i : Nat} {r : Fo × Nat × Int} (h : defM l f b i = some r) (hr : r.2.2 < 0) : r.2.2 = b := by
  unfold defM at h
  obtain ⟨k, h1, h⟩ := Option.bind_eq_some_iff.1 h
  injection h with h; subst h
  have g1 := ex_b _ _ _ _ _ h1 hr
  have g2 := g1.trans (word_b (lt_by g1 hr))
  exact g2.trans (want_b (lt_by g2 hr))
theorem def_mores {f : Nat} {b : Int} {i : Nat} {r : Fo × Nat × Int} (h : defM l f b i = some r) : ∀ e, defM l (e + f) b i = some r
  | 0 => by rw [Nat.zero_add]; exact h
  | e + 1 => by rw [show e + 1 + f = e + f + 1 by omega]; exact def_more (def_mores h e)
end Ps
end Go.Proofs.YthlkjfkgdijfdaaGreatDoor
