/- Mathematics: more fuel changes nothing; a file behind another one. -/
import Derived.Test.YthlkjfkgdijfdaaGreatDoorHO
namespace Go.Proofs.YthlkjfkgdijfdaaGreatDoor
namespace Ps
open Pg
variable {l : List Tok}
theorem ty_more : ∀ (f : Nat) (t : TT) (b : Int) (i : Nat) (r : Fo × Nat × Int), tyM l f t b i = some r → tyM l (f + 1) t b i = some r := by
  intro f
  induction f with
  | zero => intro t b i r h; rw [tyM] at h; cases h
  | succ f ih =>
    intro t b i r h
    cases t with
    | kind =>
      rw [tyM] at h ⊢
      split at h
      · rename_i c; rw [if_pos c]; exact h
      · rename_i c; rw [if_neg c]
        split at h
        · rename_i c; rw [if_pos c]; exact h
        · rename_i c; rw [if_neg c]
          split at h
          · rename_i c; rw [if_pos c]; exact h
          · rename_i c; rw [if_neg c]
            split at h
            · rename_i c; rw [if_pos c]; exact h
            · rename_i c; rw [if_neg c]
              split at h
              · rename_i c; rw [if_pos c]
                obtain ⟨x, hx, h⟩ := Option.bind_eq_some_iff.1 h
                rw [ih _ _ _ _ hx, Option.bind_some]; exact h
              · rename_i c; rw [if_neg c]
                obtain ⟨x, hx, h⟩ := Option.bind_eq_some_iff.1 h
                obtain ⟨t, ht, h⟩ := Option.bind_eq_some_iff.1 h
                dsimp only
                rw [ih _ _ _ _ hx, Option.bind_some, ih _ _ _ _ ht, Option.bind_some]; exact h
    | recL first =>
      rw [tyM] at h ⊢
      split at h
      · rename_i c; rw [if_pos c]
        obtain ⟨t, ht, h⟩ := Option.bind_eq_some_iff.1 h
        dsimp only
        rw [ih _ _ _ _ ht, Option.bind_some]
        split at h
        · rename_i c; rw [if_pos c]; exact h
        · rename_i c; rw [if_neg c]
          obtain ⟨x, hx, h⟩ := Option.map_eq_some_iff.1 h
          try dsimp only
          rw [ih _ _ _ _ hx]; exact congrArg some h
      · rename_i c; rw [if_neg c]; exact h
    | fnL first =>
      rw [tyM] at h ⊢
      split at h
      · rename_i c; rw [if_pos c]
        obtain ⟨t, ht, h⟩ := Option.bind_eq_some_iff.1 h
        rw [ih _ _ _ _ ht, Option.bind_some]
        split at h
        · rename_i c; rw [if_pos c]; exact h
        · rename_i c; rw [if_neg c]
          obtain ⟨x, hx, h⟩ := Option.map_eq_some_iff.1 h
          try dsimp only
          rw [ih _ _ _ _ hx]; exact congrArg some h
      · rename_i c; rw [if_neg c]; exact h
theorem typed_more {f : Nat} {b : Int} {i : Nat} {r : Fo × Nat × Int} (h : typedM l f b i = some r) : typedM l (f + 1) b i = some r := by
  unfold typedM at h ⊢
  split at h
  · rename_i c; rw [if_pos c]; exact h
  · rename_i c; rw [if_neg c]; exact ty_more _ _ _ _ _ h
theorem par_more : ∀ (f : Nat) (first : Bool) (b : Int) (i : Nat) (r : Fo × Nat × Int), parL l f first b i = some r → parL l (f + 1) first b i = some r := by
  intro f
  induction f with
  | zero => intro first b i r h; rw [parL] at h; cases h
  | succ f ih =>
    intro first b i r h
    rw [parL] at h ⊢
    split at h
    · rename_i c; rw [if_pos c]
      obtain ⟨t, ht, h⟩ := Option.bind_eq_some_iff.1 h
      dsimp only
      rw [typed_more ht, Option.bind_some]
      split at h
      · rename_i c; rw [if_pos c]; exact h
      · rename_i c; rw [if_neg c]
        obtain ⟨x, hx, h⟩ := Option.map_eq_some_iff.1 h
        try dsimp only
        rw [ih _ _ _ _ hx]; exact congrArg some h
    · rename_i c; rw [if_neg c]; exact h
theorem params_more {f : Nat} {b : Int} {i : Nat} {r : Fo × Nat × Int} (h : paramsM l f b i = some r) : paramsM l (f + 1) b i = some r := by
  unfold paramsM at h ⊢
  obtain ⟨x, hx, h⟩ := Option.bind_eq_some_iff.1 h
  dsimp only
  rw [par_more _ _ _ _ _ hx, Option.bind_some]
  exact h
theorem ex_more : ∀ (f : Nat) (t : XT) (b : Int) (i : Nat) (r : Fo × Nat × Int), exM l f t b i = some r → exM l (f + 1) t b i = some r := by
  intro f
  induction f with
  | zero => intro t b i r h; rw [exM] at h; cases h
  | succ f ih =>
    intro t b i r h
    cases t with
    | lambda =>
      rw [exM] at h ⊢
      obtain ⟨p, h1, h⟩ := Option.bind_eq_some_iff.1 h
      obtain ⟨t, h2, h⟩ := Option.bind_eq_some_iff.1 h
      obtain ⟨k, h3, h⟩ := Option.bind_eq_some_iff.1 h
      rw [params_more h1, Option.bind_some, typed_more h2, Option.bind_some, ih _ _ _ _ h3, Option.bind_some]; exact h
    | block =>
      rw [exM] at h ⊢
      obtain ⟨x, h1, h⟩ := Option.bind_eq_some_iff.1 h
      dsimp only
      rw [ih _ _ _ _ h1, Option.bind_some]; exact h
    | stmts =>
      rw [exM] at h ⊢
      split at h
      · rename_i c; rw [if_pos c]
        obtain ⟨x, h1, h⟩ := Option.bind_eq_some_iff.1 h
        obtain ⟨y, h2, h⟩ := Option.map_eq_some_iff.1 h
        rw [ih _ _ _ _ h1, Option.bind_some, ih _ _ _ _ h2]; exact congrArg some h
      · rename_i c; rw [if_neg c]; exact h
    | stmt =>
      rw [exM] at h ⊢
      split at h
      · rename_i c; rw [if_pos c]
        obtain ⟨c, h1, h⟩ := Option.bind_eq_some_iff.1 h
        obtain ⟨k, h2, h⟩ := Option.bind_eq_some_iff.1 h
        rw [ih _ _ _ _ h1, Option.bind_some, ih _ _ _ _ h2, Option.bind_some]
        split at h
        · rename_i c; rw [if_pos c]
          obtain ⟨o, h3, h⟩ := Option.bind_eq_some_iff.1 h
          rw [ih _ _ _ _ h3, Option.bind_some]; exact h
        · rename_i c; rw [if_neg c]; exact h
      · rename_i c; rw [if_neg c]
        split at h
        · rename_i c; rw [if_pos c]
          obtain ⟨c, h1, h⟩ := Option.bind_eq_some_iff.1 h
          obtain ⟨k, h2, h⟩ := Option.bind_eq_some_iff.1 h
          rw [ih _ _ _ _ h1, Option.bind_some, ih _ _ _ _ h2, Option.bind_some]; exact h
        · rename_i c; rw [if_neg c]
          split at h
          · rename_i c; rw [if_pos c]
            obtain ⟨t, h1, h⟩ := Option.bind_eq_some_iff.1 h
            obtain ⟨v, h2, h⟩ := Option.bind_eq_some_iff.1 h
            dsimp only
            rw [typed_more h1, Option.bind_some, ih _ _ _ _ h2, Option.bind_some]; exact h
          · rename_i c; rw [if_neg c]
            obtain ⟨v, h2, h⟩ := Option.bind_eq_some_iff.1 h
            dsimp only at h2 ⊢
            rw [ih _ _ _ _ h2, Option.bind_some]; exact h
    | expr =>
      rw [exM] at h ⊢
      obtain ⟨a, h1, h⟩ := Option.bind_eq_some_iff.1 h
      rw [ih _ _ _ _ h1, Option.bind_some]
      split at h
      · rename_i c; rw [if_pos c]; exact h
      · rename_i c; rw [if_neg c]
        obtain ⟨c, h2, h⟩ := Option.bind_eq_some_iff.1 h
        rw [ih _ _ _ _ h2, Option.bind_some]; exact h
    | sum =>
      rw [exM] at h ⊢
      obtain ⟨a, h1, h⟩ := Option.bind_eq_some_iff.1 h
      rw [ih _ _ _ _ h1, Option.bind_some]; exact ih _ _ _ _ h
    | term =>
      rw [exM] at h ⊢
      obtain ⟨a, h1, h⟩ := Option.bind_eq_some_iff.1 h
      rw [ih _ _ _ _ h1, Option.bind_some]; exact ih _ _ _ _ h
    | post =>
      rw [exM] at h ⊢
      obtain ⟨a, h1, h⟩ := Option.bind_eq_some_iff.1 h
      rw [ih _ _ _ _ h1, Option.bind_some]; exact ih _ _ _ _ h
    | sumL a =>
      rw [exM] at h ⊢
      split at h
      · rename_i c; rw [if_pos c]
        obtain ⟨a, h1, h⟩ := Option.bind_eq_some_iff.1 h
        rw [ih _ _ _ _ h1, Option.bind_some]; exact ih _ _ _ _ h
      · rename_i c; rw [if_neg c]; exact h
    | termL a =>
      rw [exM] at h ⊢
      split at h
      · rename_i c; rw [if_pos c]
        obtain ⟨a, h1, h⟩ := Option.bind_eq_some_iff.1 h
        rw [ih _ _ _ _ h1, Option.bind_some]; exact ih _ _ _ _ h
      · rename_i c; rw [if_neg c]; exact h
    | postL a =>
      rw [exM] at h ⊢
      split at h
      · rename_i c; rw [if_pos c]
        split at h
        · rename_i c; rw [if_pos c]; exact ih _ _ _ _ h
        · rename_i c; rw [if_neg c]
          obtain ⟨a, h1, h⟩ := Option.bind_eq_some_iff.1 h
          rw [ih _ _ _ _ h1, Option.bind_some]; exact ih _ _ _ _ h
      · rename_i c; rw [if_neg c]; exact h
    | args first =>
      rw [exM] at h ⊢
      split at h
      · rename_i c; rw [if_pos c]
        obtain ⟨t, ht, h⟩ := Option.bind_eq_some_iff.1 h
        rw [ih _ _ _ _ ht, Option.bind_some]
        split at h
        · rename_i c; rw [if_pos c]; exact h
        · rename_i c; rw [if_neg c]
          obtain ⟨x, hx, h⟩ := Option.map_eq_some_iff.1 h
          try dsimp only
          rw [ih _ _ _ _ hx]; exact congrArg some h
      · rename_i c; rw [if_neg c]; exact h
    | atom =>
      rw [exM] at h ⊢
      split at h
      · rename_i c; rw [if_pos c]; exact h
      · rename_i c; rw [if_neg c]
        split at h
        · rename_i c; rw [if_pos c]; exact h
        · rename_i c; rw [if_neg c]
          split at h
          · rename_i c; rw [if_pos c]; exact h
          · rename_i c; rw [if_neg c]
            split at h
            · rename_i c; rw [if_pos c]; exact h
            · rename_i c; rw [if_neg c]
              split at h
              · rename_i c; rw [if_pos c]; exact h
              · rename_i c; rw [if_neg c]
                split at h
                · rename_i c; rw [if_pos c]
                  obtain ⟨x, h1, h⟩ := Option.bind_eq_some_iff.1 h
                  rw [ih _ _ _ _ h1, Option.bind_some]; exact h
                · rename_i c; rw [if_neg c]
                  split at h
                  · rename_i c; rw [if_pos c]
                    obtain ⟨x, h1, h⟩ := Option.bind_eq_some_iff.1 h
                    rw [ih _ _ _ _ h1, Option.bind_some]; exact h
                  · rename_i c; rw [if_neg c]
                    obtain ⟨x, h1, h⟩ := Option.bind_eq_some_iff.1 h
                    dsimp only
                    rw [ih _ _ _ _ h1, Option.bind_some]; exact h
    | entries first =>
      rw [exM] at h ⊢
      split at h
      · rename_i c; rw [if_pos c]
        obtain ⟨t, ht, h⟩ := Option.bind_eq_some_iff.1 h
        dsimp only
        rw [ih _ _ _ _ ht, Option.bind_some]
        split at h
        · rename_i c; rw [if_pos c]; exact h
        · rename_i c; rw [if_neg c]
          obtain ⟨x, hx, h⟩ := Option.map_eq_some_iff.1 h
          try dsimp only
          rw [ih _ _ _ _ hx]; exact congrArg some h
      · rename_i c; rw [if_neg c]; exact h
theorem def_more {f : Nat} {b : Int} {i : Nat} {r : Fo × Nat × Int} (h : defM l f b i = some r) : defM l (f + 1) b i = some r := by
  unfold defM at h ⊢
  obtain ⟨k, h1, h⟩ := Option.bind_eq_some_iff.1 h
  dsimp only
  rw [ex_more _ _ _ _ _ h1, Option.bind_some]; exact h
theorem items_more1 : ∀ (f : Nat) (b : Int) (i : Nat) (r : Fo × Nat × Int), itemsM l f b i = some r → itemsM l (f + 1) b i = some r := by
  intro f
  induction f with
  | zero => intro b i r h; rw [itemsM] at h; cases h
  | succ f ih =>
    intro b i r h
    rw [itemsM] at h ⊢
    split at h
    · rename_i c; rw [if_pos c]
      split at h
      · rename_i c; rw [if_pos c]
        obtain ⟨x, h1, h⟩ := Option.map_eq_some_iff.1 h
        rw [ih _ _ _ h1]; exact congrArg some h
      · rename_i c; rw [if_neg c]
        obtain ⟨t, h0, h⟩ := Option.bind_eq_some_iff.1 h
        obtain ⟨x, h1, h⟩ := Option.map_eq_some_iff.1 h
        rw [def_more h0, Option.bind_some, ih _ _ _ h1]; exact congrArg some h
    · rename_i c; rw [if_neg c]; exact h
theorem items_more {f : Nat} {b : Int} {i : Nat} {r : Fo × Nat × Int} (h : itemsM l f b i = some r) : ∀ e, itemsM l (f + e) b i = some r
  | 0 => h
  | e + 1 => items_more1 _ _ _ _ (items_more h e)
theorem items_det {f g : Nat} {b : Int} {i : Nat} {r q : Fo × Nat × Int} (h : itemsM l f b i = some r) (k : itemsM l g b i = some q) : r = q := by
  have h1 := items_more h g
  have h2 := items_more k f
  rw [Nat.add_comm g f] at h2
  rw [h1] at h2
  exact Option.some.inj h2

variable {l' : List Tok} {d N : Nat}
/-- A use, known by its tokens. -/
theorem use_of {l : List Tok} {b : Int} {i : Nat} (hb : b < 0) (k1 : kindAt l (i + 1) = 1) (m2 : isM l (i + 2) sDot = true) (k3 : kindAt l (i + 3) = 1) (m4 : isM l (i + 4) sSem = true) : useM l b i = (.one ⟨2, i, i + 5, textAt l (i + 3), i + 3⟩ (.one ⟨23, i + 1, i + 2, textAt l (i + 1), i + 1⟩ .nil), i + 5, b) := by
  have hb' : ¬ (0 : Int) ≤ b := by omega
  have e1 : ∀ hd : Hd, wordM l b hd (i + 1) = ({ hd with word := textAt l (i + 1), at_ := i + 1 }, i + 2, b) := fun hd => by
    unfold wordM; rw [if_neg hb', if_pos k1]
  have e2 : wantM l b (i + 2) sDot = (i + 3, b) := by unfold wantM; rw [if_neg hb', if_pos m2]
  have e3 : ∀ hd : Hd, wordM l b hd (i + 3) = ({ hd with word := textAt l (i + 3), at_ := i + 3 }, i + 4, b) := fun hd => by
    unfold wordM; rw [if_neg hb', if_pos k3]
  have e4 : wantM l b (i + 4) sSem = (i + 5, b) := by unfold wantM; rw [if_neg hb', if_pos m4]
  unfold useM
  simp only [e1, e2, e3, e4]
theorem use_good {l : List Tok} {b : Int} {i : Nat} (hr : (useM l b i).2.2 < 0) : b < 0 ∧ kindAt l (i + 1) = 1 ∧ isM l (i + 2) sDot = true ∧ kindAt l (i + 3) = 1 ∧ isM l (i + 4) sSem = true := by
  unfold useM at hr
  dsimp only at hr
  obtain ⟨h4, m4, e4⟩ := wantM_good hr
  obtain ⟨h3, m3, e3⟩ := wordM_good h4
  obtain ⟨h2, m2, e2⟩ := wantM_good h3
  obtain ⟨h1, m1, e1⟩ := wordM_good h2
  simp only [e1] at e2 e3 e4 m2 m3 m4
  simp only [e2] at e3 e4 m3 m4
  simp only [e3] at e4 m4
  exact ⟨h1, m1, m2, m3, m4⟩
theorem use_s (S : Sim l l' d N) {b : Int} {i : Nat} (hr : (useM l b i).2.2 < 0) (hN : (useM l b i).2.1 ≤ N) : Alike d (useM l b i) (some (useM l' b (i + d))) := by
  obtain ⟨hb, k1, m2, k3, m4⟩ := use_good hr
  have e := use_of hb k1 m2 k3 m4
  rw [e] at hN ⊢
  dsimp only at hN
  have k1' : kindAt l' (i + d + 1) = 1 := by rw [show i + d + 1 = i + 1 + d by omega, S.k _ (by omega)]; exact k1
  have m2' : isM l' (i + d + 2) sDot = true := by rw [show i + d + 2 = i + 2 + d by omega, S.m _ (by omega)]; exact m2
  have k3' : kindAt l' (i + d + 3) = 1 := by rw [show i + d + 3 = i + 3 + d by omega, S.k _ (by omega)]; exact k3
  have m4' : isM l' (i + d + 4) sSem = true := by rw [show i + d + 4 = i + 4 + d by omega, S.m _ (by omega)]; exact m4
  have t1 : textAt l' (i + d + 1) = textAt l (i + 1) := by rw [show i + d + 1 = i + 1 + d by omega, S.t _ (by omega)]
  have t3 : textAt l' (i + d + 3) = textAt l (i + 3) := by rw [show i + d + 3 = i + 3 + d by omega, S.t _ (by omega)]
  rw [use_of hb k1' m2' k3' m4']
  refine ⟨_, by rw [show i + 5 + d = i + d + 5 by omega], ?_⟩
  exact Eqv.one rfl t3.symm (Eqv.one rfl t1.symm trivial)
theorem def_s (S : Sim l l' d N) {f : Nat} {b : Int} {i : Nat} {r : Fo × Nat × Int} (h : defM l f b i = some r) (hr : r.2.2 < 0) (hN : r.2.1 ≤ N) : Alike d r (defM l' f b (i + d)) := by
  unfold defM at h ⊢
  obtain ⟨k, h1, h⟩ := Option.bind_eq_some_iff.1 h
  injection h with h; subst h
  dsimp only at hN hr
  have p1 := ex_go _ _ _ _ _ h1 hr
  simp only [sX] at p1
  obtain ⟨g1, e1, w1, n1⟩ := word_s S (exM_was h1 hr) (by omega)
  rw [e1] at p1
  dsimp only at p1
  obtain ⟨_, e0', w0, n0⟩ := want_s S g1 (by omega)
  obtain ⟨k1, y1, z1⟩ := ex_s S _ _ _ _ _ .nil h1 hr (by simp only [lkX]; omega) trivial
  simp only [withA] at y1
  rw [e1] at y1
  rw [e0'] at w1 y1
  dsimp only at *
  rw [w0]
  dsimp only
  rw [w1]
  dsimp only
  rw [y1, Option.bind_some, e1]
  exact ⟨_, rfl, Eqv.one rfl (by dsimp only; rw [e0']) z1⟩
end Ps
end Go.Proofs.YthlkjfkgdijfdaaGreatDoor
