import Derived.Test.YthjflofcgdfekaaGreatDoorMBO
import Derived.Test.YthjflofcgdfekaaGreatDoorMBL
import Derived.Maps.AppendAt
import Derived.Laws.OwnMore
import Derived.Lib.AppendZeros
import Derived.Test.YthjflofcgdfekaaGreatDoorSH
import Derived.Deep.CutRange
import Derived.Deep.LoopGhost
import Derived.BigQuiet
import Derived.Laws.StructEq
import Derived.Test.YthjflofcgdfekaaGreatDoorMAR
namespace Go.Proofs.YthjflofcgdfekaaGreatDoor
open Go.RowKit Go.Op
namespace Sc
open Vm
open Ps Pg
variable {l : List Tok}
theorem gd_app : ∀ {a b : Fo}, Gd (tr a) → Gd (tr b) → Gd (tr (a.app b))
  | .nil, _, _, hb => hb
  | .cons h k r, b, ha, hb => by
    rw [tr, Gd] at ha
    rw [Fo.app, tr, Gd]
    exact ⟨ha.1, ha.2.1, ha.2.2.1, ha.2.2.2.1, gd_app ha.2.2.2.2 hb⟩
theorem gd_one {h : Hd} {k : Fo} (h2 : h.kind ≠ 2) (h3 : h.kind ≠ 3) (h5 : h.kind ≠ 5) (h28 : h.kind ≠ 28) (hk : Gd (tr k)) : Gd (tr (.one h k)) := by
  unfold Fo.one
  rw [tr, Gd]
  exact ⟨by simp only [hi_]; omega, by simp only [hi_]; omega, by simp only [hi_]; omega, by rw [if_neg (by simp only [hi_]; omega)]; exact hk, by rw [tr, Gd]; trivial⟩
theorem gd_nil : Gd (tr .nil) := by rw [tr, Gd]; trivial
def Tyk : Fo → Prop
  | .nil => True
  | .cons h k r => (h.kind = 0 ∨ 29 ≤ h.kind ∧ h.kind ≤ 34) ∧ Tyk k ∧ Tyk r
theorem Tyk.app : ∀ {a b : Fo}, Tyk a → Tyk b → Tyk (a.app b)
  | .nil, _, _, hb => hb
  | .cons _ _ _, _, ⟨h1, h2, h3⟩, hb => ⟨h1, h2, Tyk.app h3 hb⟩
theorem Tyk.silent : ∀ {k : Fo}, Tyk k → Silent (tr k)
  | .nil, _ => by rw [tr]; trivial
  | .cons h k r, ⟨h1, h2, h3⟩ => by
    rw [tr]
    simp only [Silent, hi_]
    exact ⟨by omega, by omega, by omega, by omega, by omega, by omega, by omega, fun _ => Tyk.silent h2, Tyk.silent h3⟩
theorem Tyk.gd : ∀ {k : Fo}, Tyk k → Gd (tr k)
  | .nil, _ => gd_nil
  | .cons h k r, ⟨h1, h2, h3⟩ => by
    rw [tr, Gd]
    exact ⟨by simp only [hi_]; omega, by simp only [hi_]; omega, by simp only [hi_]; omega, by rw [if_neg (by simp only [hi_]; omega)]; exact Tyk.gd h2, Tyk.gd h3⟩
theorem Tyk.one {h : Hd} {k : Fo} (hh : 29 ≤ h.kind ∧ h.kind ≤ 34) (hk : Tyk k) : Tyk (.one h k) := ⟨.inr hh, hk, trivial⟩
theorem Tyk.zero : Tyk .zero := ⟨.inl rfl, trivial, trivial⟩
theorem ty_tyk : ∀ (f : Nat) (t : TT) (b : Int) (i : Nat) (r : Fo × Nat × Int), tyM l f t b i = some r → Tyk r.1 ∧ (t = .kind → ∃ h k, r.1 = .one h k) := by
  intro f
  induction f with
  | zero => intro t b i r h; rw [tyM] at h; cases h
  | succ f ih =>
    intro t b i r h
    cases t with
    | kind =>
      rw [tyM] at h
      split at h
      · injection h with h; subst h; exact ⟨Tyk.zero, fun _ => ⟨_, _, rfl⟩⟩
      · split at h
        · injection h with h; subst h; exact ⟨Tyk.one (by dsimp only; omega) trivial, fun _ => ⟨_, _, rfl⟩⟩
        · split at h
          · injection h with h; subst h; exact ⟨Tyk.one (by dsimp only; omega) trivial, fun _ => ⟨_, _, rfl⟩⟩
          · split at h
            · injection h with h; subst h; exact ⟨Tyk.one (by dsimp only; omega) trivial, fun _ => ⟨_, _, rfl⟩⟩
            · split at h
              · obtain ⟨x, hx, h⟩ := Option.bind_eq_some_iff.1 h
                injection h with h; subst h
                exact ⟨Tyk.one (by dsimp only; omega) (ih _ _ _ _ hx).1, fun _ => ⟨_, _, rfl⟩⟩
              · obtain ⟨x, hx, h⟩ := Option.bind_eq_some_iff.1 h
                obtain ⟨t, ht, h⟩ := Option.bind_eq_some_iff.1 h
                injection h with h; subst h
                exact ⟨Tyk.one (by dsimp only; omega) (Tyk.app (ih _ _ _ _ hx).1 (ih _ _ _ _ ht).1), fun _ => ⟨_, _, rfl⟩⟩
    | recL first =>
      refine ⟨?_, fun e => by cases e⟩
      rw [tyM] at h
      split at h
      · obtain ⟨t, ht, h⟩ := Option.bind_eq_some_iff.1 h
        have key : Tyk (.one { (wordM l b ⟨33, i, 0, e0, 0⟩ i).1 with til := t.2.1 } t.1) := Tyk.one (by dsimp only; rw [word_kind]; dsimp only; omega) (ih _ _ _ _ ht).1
        split at h
        · injection h with h; subst h
          exact key
        · obtain ⟨x, hx, h⟩ := Option.map_eq_some_iff.1 h
          subst h
          exact Tyk.app key (ih _ _ _ _ hx).1
      · injection h with h; subst h; exact trivial
    | fnL first =>
      refine ⟨?_, fun e => by cases e⟩
      rw [tyM] at h
      split at h
      · obtain ⟨t, ht, h⟩ := Option.bind_eq_some_iff.1 h
        split at h
        · injection h with h; subst h
          exact (ih _ _ _ _ ht).1
        · obtain ⟨x, hx, h⟩ := Option.map_eq_some_iff.1 h
          subst h
          exact Tyk.app (ih _ _ _ _ ht).1 (ih _ _ _ _ hx).1
      · injection h with h; subst h; exact trivial
theorem typed_tyk {f : Nat} {b : Int} {i : Nat} {r : Fo × Nat × Int} (h : typedM l f b i = some r) : Tyk r.1 ∧ ∃ h k, r.1 = .one h k := by
  unfold typedM at h
  split at h
  · injection h with h; subst h; exact ⟨Tyk.zero, _, _, rfl⟩
  · have := ty_tyk _ _ _ _ _ h
    exact ⟨this.1, this.2 rfl⟩
theorem allk_app : ∀ {a b : Fo}, AllK 5 (tr a) → AllK 5 (tr b) → AllK 5 (tr (a.app b))
  | .nil, _, _, hb => hb
  | .cons h k r, b, ha, hb => by
    rw [tr] at ha
    rw [Fo.app, tr]
    exact ⟨ha.1, allk_app ha.2 hb⟩
theorem par_allk : ∀ (f : Nat) (first : Bool) (b : Int) (i : Nat) (r : Fo × Nat × Int), parL l f first b i = some r → AllK 5 (tr r.1) := by
  intro f
  induction f with
  | zero => intro first b i r h; rw [parL] at h; cases h
  | succ f ih =>
    intro first b i r h
    rw [parL] at h
    split at h
    · obtain ⟨t, ht, h⟩ := Option.bind_eq_some_iff.1 h
      have key : AllK 5 (tr (.one { (wordM l b ⟨5, i, 0, e0, 0⟩ i).1 with til := t.2.1 } t.1)) := by
        unfold Fo.one
        rw [tr]
        refine ⟨?_, by rw [tr]; trivial⟩
        simp only [hi_]
        rw [word_kind]
        rfl
      split at h
      · injection h with h; subst h; exact key
      · obtain ⟨x, hx, h⟩ := Option.map_eq_some_iff.1 h
        subst h
        exact allk_app key (ih _ _ _ _ hx)
    · injection h with h; subst h; rw [tr]; trivial
theorem params_gd {f : Nat} {b : Int} {i : Nat} {r : Fo × Nat × Int} (h : paramsM l f b i = some r) : ∃ h k, r.1 = .one h k ∧ h.kind = 4 ∧ AllK 5 (tr k) := by
  unfold paramsM at h
  obtain ⟨x, hx, h⟩ := Option.bind_eq_some_iff.1 h
  injection h with h; subst h
  exact ⟨_, _, rfl, rfl, par_allk _ _ _ _ _ hx⟩
def PX : XT → Prop
  | .sumL a | .termL a | .postL a => Gd (tr a)
  | _ => True
def GX : XT → Fo → Prop
  | .lambda, k => Lm (tr k)
  | .block, k => ∃ h kk, k = .one h kk ∧ h.kind = 6 ∧ Gd (tr kk)
  | _, k => Gd (tr k)
theorem blk_gd {k : Fo} (h : ∃ h kk, k = .one h kk ∧ h.kind = 6 ∧ Gd (tr kk)) : Gd (tr k) := by
  obtain ⟨h, kk, rfl, h6, hk⟩ := h
  exact gd_one (by omega) (by omega) (by omega) (by omega) hk
theorem gd_zero : Gd (tr .zero) := Tyk.zero.gd
theorem ex_gd : ∀ (f : Nat) (t : XT) (b : Int) (i : Nat) (r : Fo × Nat × Int), exM l f t b i = some r → PX t → GX t r.1 := by
  intro f
  induction f with
  | zero => intro t b i r h; rw [exM] at h; cases h
  | succ f ih =>
    intro t b i r h hpre
    cases t with
    | lambda =>
      rw [exM] at h
      obtain ⟨p, h1, h⟩ := Option.bind_eq_some_iff.1 h
      obtain ⟨t, h2, h⟩ := Option.bind_eq_some_iff.1 h
      obtain ⟨k, h3, h⟩ := Option.bind_eq_some_iff.1 h
      injection h with h; subst h
      obtain ⟨hp, kp, e1, p1, p2⟩ := params_gd h1
      obtain ⟨t1, ht, kt, e2⟩ := typed_tyk h2
      obtain ⟨hb, kb, e3, b1, b2⟩ := ih _ _ _ _ h3 trivial
      have ts := t1.silent
      rw [e2] at ts
      show Lm (tr (p.1.app (t.1.app k.1)))
      rw [e1, e2, e3]
      simp only [Fo.one, Fo.app, tr] at ts ⊢
      rw [Lm]
      exact ⟨by simp only [hi_]; omega, p2, ts, by simp only [hi_]; omega, b2⟩
    | block =>
      rw [exM] at h
      obtain ⟨x, h1, h⟩ := Option.bind_eq_some_iff.1 h
      injection h with h; subst h
      exact ⟨_, _, rfl, rfl, ih _ _ _ _ h1 trivial⟩
    | stmts =>
      rw [exM] at h
      split at h
      · obtain ⟨x, h1, h⟩ := Option.bind_eq_some_iff.1 h
        obtain ⟨y, h2, h⟩ := Option.map_eq_some_iff.1 h
        subst h
        exact gd_app (ih _ _ _ _ h1 trivial) (ih _ _ _ _ h2 trivial)
      · injection h with h; subst h; exact gd_nil
    | stmt =>
      rw [exM] at h
      split at h
      · obtain ⟨c, h1, h⟩ := Option.bind_eq_some_iff.1 h
        obtain ⟨k, h2, h⟩ := Option.bind_eq_some_iff.1 h
        have gk := blk_gd (ih _ _ _ _ h2 trivial)
        have gc := ih _ _ _ _ h1 trivial
        split at h
        · obtain ⟨o, h3, h⟩ := Option.bind_eq_some_iff.1 h
          injection h with h; subst h
          exact gd_one (by dsimp only; omega) (by dsimp only; omega) (by dsimp only; omega) (by dsimp only; omega) (gd_app gc (gd_app gk (blk_gd (ih _ _ _ _ h3 trivial))))
        · injection h with h; subst h
          exact gd_one (by dsimp only; omega) (by dsimp only; omega) (by dsimp only; omega) (by dsimp only; omega) (gd_app gc (gd_app gk gd_zero))
      · split at h
        · obtain ⟨c, h1, h⟩ := Option.bind_eq_some_iff.1 h
          obtain ⟨k, h2, h⟩ := Option.bind_eq_some_iff.1 h
          injection h with h; subst h
          exact gd_one (by dsimp only; omega) (by dsimp only; omega) (by dsimp only; omega) (by dsimp only; omega) (gd_app (ih _ _ _ _ h1 trivial) (blk_gd (ih _ _ _ _ h2 trivial)))
        · split at h
          · obtain ⟨t, h1, h⟩ := Option.bind_eq_some_iff.1 h
            obtain ⟨v, h2, h⟩ := Option.bind_eq_some_iff.1 h
            injection h with h; subst h
            have hk : ((wordM l b ⟨7, i, 0, e0, 0⟩ (i + 1)).1).kind = 7 := word_kind _ _ _
            exact gd_one (by dsimp only; omega) (by dsimp only; omega) (by dsimp only; omega) (by dsimp only; omega) (gd_app (typed_tyk h1).1.gd (ih _ _ _ _ h2 trivial))
          · dsimp only at h
            obtain ⟨v, h2, h⟩ := Option.bind_eq_some_iff.1 h
            injection h with h; subst h
            have hv := ih _ _ _ _ h2 trivial
            have hk8 : ((wordM l b ⟨8, i, 0, e0, 0⟩ i).1).kind = 8 := word_kind _ _ _
            refine gd_one ?_ ?_ ?_ ?_ hv <;> dsimp only <;> (repeat' split) <;> dsimp only <;> omega
    | expr =>
      rw [exM] at h
      obtain ⟨a, h1, h⟩ := Option.bind_eq_some_iff.1 h
      have ha := ih _ _ _ _ h1 trivial
      split at h
      · injection h with h; subst h
        exact ha
      · obtain ⟨c, h2, h⟩ := Option.bind_eq_some_iff.1 h
        injection h with h; subst h
        exact gd_one (by dsimp only; split <;> omega) (by dsimp only; split <;> omega) (by dsimp only; split <;> omega) (by dsimp only; split <;> omega) (gd_app ha (ih _ _ _ _ h2 trivial))
    | sum =>
      rw [exM] at h
      obtain ⟨a, h1, h⟩ := Option.bind_eq_some_iff.1 h
      have g := ih _ _ _ _ h (ih _ _ _ _ h1 trivial)
      exact g
    | term =>
      rw [exM] at h
      obtain ⟨a, h1, h⟩ := Option.bind_eq_some_iff.1 h
      have g := ih _ _ _ _ h (ih _ _ _ _ h1 trivial)
      exact g
    | post =>
      rw [exM] at h
      obtain ⟨a, h1, h⟩ := Option.bind_eq_some_iff.1 h
      have g := ih _ _ _ _ h (ih _ _ _ _ h1 trivial)
      exact g
    | sumL a =>
      have pa : Gd (tr a) := hpre
      rw [exM] at h
      split at h
      · obtain ⟨c, h1, h⟩ := Option.bind_eq_some_iff.1 h
        have g := ih _ _ _ _ h (gd_one (by dsimp only; split <;> omega) (by dsimp only; split <;> omega) (by dsimp only; split <;> omega) (by dsimp only; split <;> omega) (gd_app pa (ih _ _ _ _ h1 trivial)))
        exact g
      · injection h with h; subst h; exact pa
    | termL a =>
      have pa : Gd (tr a) := hpre
      rw [exM] at h
      split at h
      · obtain ⟨c, h1, h⟩ := Option.bind_eq_some_iff.1 h
        have g := ih _ _ _ _ h (gd_one (by dsimp only; omega) (by dsimp only; omega) (by dsimp only; omega) (by dsimp only; omega) (gd_app pa (ih _ _ _ _ h1 trivial)))
        exact g
      · injection h with h; subst h; exact pa
    | postL a =>
      have pa : Gd (tr a) := hpre
      rw [exM] at h
      split at h
      · split at h
        · have hk : ((wordM l b ⟨19, a.from_, 0, e0, 0⟩ (i + 1)).1).kind = 19 := word_kind _ _ _
          have g := ih _ _ _ _ h (gd_one (by dsimp only; omega) (by dsimp only; omega) (by dsimp only; omega) (by dsimp only; omega) pa)
          exact g
        · obtain ⟨k, h1, h⟩ := Option.bind_eq_some_iff.1 h
          have g := ih _ _ _ _ h (gd_one (by dsimp only; omega) (by dsimp only; omega) (by dsimp only; omega) (by dsimp only; omega) (gd_app pa (ih _ _ _ _ h1 trivial)))
          exact g
      · injection h with h; subst h; exact pa
    | args first =>
      rw [exM] at h
      split at h
      · obtain ⟨t, h1, h⟩ := Option.bind_eq_some_iff.1 h
        have g1 := ih _ _ _ _ h1 trivial
        split at h
        · injection h with h; subst h
          exact g1
        · obtain ⟨y, h2, h⟩ := Option.map_eq_some_iff.1 h
          subst h
          exact gd_app g1 (ih _ _ _ _ h2 trivial)
      · injection h with h; subst h; exact gd_nil
    | atom =>
      have leaf : ∀ kd fr ti : Nat, ∀ wd : ByteArray, ∀ at_ : Nat, kd ≠ 2 → kd ≠ 3 → kd ≠ 5 → kd ≠ 28 → Gd (tr (.one ⟨kd, fr, ti, wd, at_⟩ .nil)) := fun kd fr ti wd at_ k2 k3 k5 k28 => gd_one k2 k3 k5 k28 gd_nil
      rw [exM] at h
      split at h
      · injection h with h; subst h; exact gd_zero
      · split at h
        · injection h with h; subst h; exact leaf _ _ _ _ _ (by omega) (by omega) (by omega) (by omega)
        · split at h
          · injection h with h; subst h; exact leaf _ _ _ _ _ (by omega) (by omega) (by omega) (by omega)
          · split at h
            · injection h with h; subst h; exact leaf _ _ _ _ _ (by omega) (by omega) (by omega) (by omega)
            · split at h
              · injection h with h; subst h; exact leaf _ _ _ _ _ (by omega) (by omega) (by omega) (by omega)
              · split at h
                · obtain ⟨x, h1, h⟩ := Option.bind_eq_some_iff.1 h
                  injection h with h; subst h
                  exact gd_one (by dsimp only; omega) (by dsimp only; omega) (by dsimp only; omega) (by dsimp only; omega) (ih _ _ _ _ h1 trivial)
                · split at h
                  · obtain ⟨x, h1, h⟩ := Option.bind_eq_some_iff.1 h
                    injection h with h; subst h
                    exact gd_one (by dsimp only; omega) (by dsimp only; omega) (by dsimp only; omega) (by dsimp only; omega) (ih _ _ _ _ h1 trivial)
                  · obtain ⟨k, h1, h⟩ := Option.bind_eq_some_iff.1 h
                    injection h with h; subst h
                    have hl : Lm (tr k.1) := ih _ _ _ _ h1 trivial
                    show Gd (tr (.one _ _))
                    unfold Fo.one
                    rw [tr, Gd]
                    exact ⟨by simp only [hi_]; omega, by simp only [hi_]; omega, by simp only [hi_]; omega, by rw [if_pos (by simp only [hi_]; rfl)]; exact hl, gd_nil⟩
    | entries first =>
      rw [exM] at h
      split at h
      · obtain ⟨t, h1, h⟩ := Option.bind_eq_some_iff.1 h
        have hk : ((wordM l b ⟨27, i, 0, e0, 0⟩ i).1).kind = 27 := word_kind _ _ _
        have key : Gd (tr (.one { (wordM l b ⟨27, i, 0, e0, 0⟩ i).1 with til := t.2.1 } t.1)) := gd_one (by dsimp only; omega) (by dsimp only; omega) (by dsimp only; omega) (by dsimp only; omega) (ih _ _ _ _ h1 trivial)
        split at h
        · injection h with h; subst h; exact key
        · obtain ⟨y, h2, h⟩ := Option.map_eq_some_iff.1 h
          subst h
          exact gd_app key (ih _ _ _ _ h2 trivial)
      · injection h with h; subst h; exact gd_nil
theorem gdi_app : ∀ {a b : Fo}, GdI (tr a) → GdI (tr b) → GdI (tr (a.app b))
  | .nil, _, _, hb => hb
  | .cons h k r, b, ha, hb => by
    rw [tr] at ha
    rw [Fo.app, tr]
    exact ⟨ha.1, gdi_app ha.2 hb⟩
theorem items_gd : ∀ (f : Nat) (b : Int) (i : Nat) (r : Fo × Nat × Int), itemsM l f b i = some r → GdI (tr r.1) := by
  intro f
  induction f with
  | zero => intro b i r h; rw [itemsM] at h; cases h
  | succ f ih =>
    intro b i r h
    rw [itemsM] at h
    split at h
    · split at h
      · obtain ⟨x, h1, h⟩ := Option.map_eq_some_iff.1 h
        subst h
        refine gdi_app ?_ (ih _ _ _ h1)
        unfold useM
        dsimp only
        unfold Fo.one
        rw [tr]
        refine ⟨.inl ?_, by rw [tr]; trivial⟩
        simp only [hi_]
        rw [word_kind]
        rfl
      · obtain ⟨t, h0, h⟩ := Option.bind_eq_some_iff.1 h
        obtain ⟨x, h1, h⟩ := Option.map_eq_some_iff.1 h
        subst h
        unfold defM at h0
        obtain ⟨k, hk, h0⟩ := Option.bind_eq_some_iff.1 h0
        injection h0 with h0
        subst h0
        refine gdi_app ?_ (ih _ _ _ h1)
        have hl : Lm (tr k.1) := ex_gd _ _ _ _ _ hk trivial
        dsimp only
        unfold Fo.one
        rw [tr]
        refine ⟨.inr ⟨?_, hl⟩, by rw [tr]; trivial⟩
        simp only [hi_]
        rw [word_kind]
        rfl
    · injection h with h
      subst h
      rw [tr]
      exact trivial
end Sc
end Go.Proofs.YthjflofcgdfekaaGreatDoor

namespace Go.Proofs.YthjflofcgdfekaaGreatDoor
open Go.RowKit Go.Op
namespace Sc
open Vm
open Sb
abbrev nmC (n : Nm) : List Value := [.int .i64 (n.tgt : Int), .bool n.begins, .bool n.lambda]
theorem flat_cell {α : Type} {f : α → List Value} {sz : Nat} (hf : ∀ x, (f x).length = sz) : ∀ (l : List α) (k : Nat) (u : Value), (l.flatMap f)[k]? = some u → ∃ i x j, l[i]? = some x ∧ (f x)[j]? = some u ∧ k = i * sz + j
  | [], k, u, h => by simp at h
  | x :: l, k, u, h => by
    rw [List.flatMap_cons] at h
    by_cases hk : k < sz
    · rw [List.getElem?_append_left (by rw [hf]; exact hk)] at h
      exact ⟨0, x, k, rfl, h, by omega⟩
    · rw [List.getElem?_append_right (by rw [hf]; omega), hf] at h
      obtain ⟨i, y, j, h1, h2, h3⟩ := flat_cell hf l _ _ h
      exact ⟨i + 1, y, j, by rw [List.getElem?_cons_succ]; exact h1, h2, by rw [Nat.add_mul]; omega⟩
end Sc
end Go.Proofs.YthjflofcgdfekaaGreatDoor







namespace Go.Proofs.YthjflofcgdfekaaGreatDoor
open Go.RowKit Go.Op
namespace Sc
open Vm
open Sb
theorem row_up {α : Type} {w w' : World} {f : α → List Value} {sz : Nat} {A : Option Addr} {l : List α} {lo hi : Nat} (h : RowAt w lo hi f sz A l) (hh : hi ≤ w.heap.size) (hb : Below w.heap.size w w') : RowAt w' lo w'.heap.size f sz A l := fun h0 => by
  obtain ⟨g, e, h1, h2, h3⟩ := h h0
  exact ⟨g, e, h1, by have := hb.size; omega, fun i x hx j u hj => (hb.cell (p := ⟨g, i * sz + j, none⟩) (by show g < _; omega)).trans (h3 i x hx j u hj)⟩
end Sc
end Go.Proofs.YthjflofcgdfekaaGreatDoor
namespace Go.Proofs.YthjflofcgdfekaaGreatDoor
open Go.RowKit Go.Op
namespace Sd
open Sc Vm
open Sb (RowAt)
def DgL (w : World) (lo : Nat) (A : Option Addr) (c : Nat) (l : List Dg) : Prop := RowAt w lo w.heap.size dgC 3 A l ∧ l.length ≤ c ∧ (A = none → c = 0) ∧ ∀ a, A = some a → ∃ g, a = ⟨g, 0, none⟩
theorem DgL.below {w w' : World} {lo : Nat} {A : Option Addr} {c : Nat} {l : List Dg} (h : DgL w lo A c l) (hb : Below w.heap.size w w') : DgL w' lo A c l := ⟨row_up h.1 (Nat.le_refl _) hb, h.2⟩
theorem info67 : (Tryz.prog.info? 78).map (fun i => (i.zero, i.size, i.bytes)) = some (some (.agg #[.string ByteArray.empty, .int .i64 0, .int .i64 0]), 3, 32) := by kernel_rfl
theorem flat_ba (M : List Dg) : (M.flatMap dgC).length = M.length * 3 := by
  induction M with
  | nil => rfl
  | cons x r ih => rw [List.flatMap_cons, List.length_append, ih, List.length_cons]; simp [dgC]; omega
set_option maxRecDepth 100000 in
theorem app_sl {w : World} {B : Nat} {v : Value} {n : Nat} {xs : List Value} (ho : w.ownsRow B 78 3 v n xs) (hB : B ≤ w.heap.size) (A : Option Addr) (m c : Nat) (news : List Dg) (hm : news.length = m) (hn : n + m ≤ 1000000000) (hA : A = none → m = 0 ∧ c = 0)
    (hc : ∀ a, A = some a → ∀ j u, (news.flatMap dgC)[j]? = some u → w.cell? (a.add j) = some u) (ty : TypeId) :
    ∃ v' w', (Builtin.append_ #[70, 70] ty #[v, .slice A m c]).run Tryz.prog w = .ok v' w' ∧ w'.ownsRow B 78 3 v' (n + m) (xs ++ news.flatMap dgC) ∧ w.grownBy w' v.ownBlock := by
  have hi := info67
  cases hi' : Tryz.prog.info? 78 with
  | none => rw [hi'] at hi; cases hi
  | some i =>
    rw [hi'] at hi
    simp only [Option.map_some, Option.some.injEq, Prod.mk.injEq] at hi
    have h38 : Tryz.prog.underlying 70 = some (.slice 78) := by kernel_rfl
    cases A with
    | none =>
      obtain ⟨rfl, rfl⟩ := hA rfl
      have : news = [] := List.length_eq_zero_iff.1 hm
      subst this
      refine ⟨v, w, run_append_owned_none w B 70 ty 78 i 3 h38 hi' v n xs ho, by simpa using ho, ⟨rfl, rfl, rfl, Nat.le_refl _, fun _ _ _ => rfl⟩⟩
    | some a =>
      obtain ⟨v', w', a1, a2, a3, _, _⟩ := run_append_own_at (P := Tryz.prog) w B 70 ty 78 i _ 3 32 h38 hi' hi.1 hi.2.1 hi.2.2 rfl (by decide) v n xs ho a m c (news.flatMap dgC)
        (by rw [flat_ba, hm]) (hc a rfl) (fun u hu => by
          obtain ⟨x, _, hx⟩ := List.mem_flatMap.1 hu
          simp [dgC] at hx
          rcases hx with rfl | rfl | rfl <;> rfl) (by simp only [maxLen]; omega) (by omega) hB
      exact ⟨v', w', a1, a2, a3⟩
theorem grown_below {w w0 w' : World} {v : Value} {e s n : Nat} {xs : List Value} (h : Below w0.heap.size w0 w) (ho : w.ownsRow w0.heap.size e s v n xs) (hg : w.grownBy w' v.ownBlock) : Below w0.heap.size w0 w' :=
  ⟨hg.os.trans h.os, hg.tape.trans h.tape, hg.output.trans h.output, Nat.le_trans h.size hg.size, fun g h1 => (hg.block g (Nat.lt_of_lt_of_le h1 h.size) (fun e => by have := (ho.lt g e.symm).1; omega)).trans (h.block g h1)⟩
set_option maxRecDepth 100000 in
theorem bad_round {w : World} {lo : Nat} {A : Option Addr} {c : Nat} {l : List Dg} (h : DgL w lo A c l) (hlo : lo ≤ w.heap.size) (hl : l.length ≤ 100000000) (x : Dg) (p : Nat) (hp : p ≤ l.length) (A' : Option Addr) (c' : Nat) (hA' : A = none → A' = none ∧ c' = 0) (hA2 : ∀ g, A = some ⟨g, 0, none⟩ → (∃ a, A' = some a) ∧ (p < l.length → A' = some ⟨g, p * 3, none⟩)) :
    ∃ v1 w1 v2 w3 A4 c4 w4, (Builtin.append_ #[70, 70] 70 #[.slice none 0 0, .slice A p c]).run Tryz.prog w = .ok v1 w1 ∧ (Builtin.append_ #[70, 70] 70 #[v1, .slice (some ⟨w1.heap.size, 0, none⟩) 1 1]).run Tryz.prog (w1.alloc (.cells #[.string x.1, .int .i64 x.2.1, .int .i64 x.2.2] 78)) = .ok v2 w3 ∧
      (Builtin.append_ #[70, 70] 70 #[v2, .slice A' (l.length - p) c']).run Tryz.prog w3 = .ok (.slice A4 (l.length + 1) c4) w4 ∧ DgL w4 lo A4 c4 (l.take p ++ [x] ++ l.drop p) ∧ Below w.heap.size w w1 ∧ Below w.heap.size w w3 ∧ Below w.heap.size w w4 := by
  have ho0 : w.ownsRow w.heap.size 78 3 (.slice none 0 0) 0 [] := ⟨rfl, .inl ⟨rfl, rfl⟩⟩
  have hcell : ∀ W, Below w.heap.size w W → ∀ g, A = some ⟨g, 0, none⟩ → ∀ q y, l[q]? = some y → ∀ j u, (dgC y)[j]? = some u → W.cell? ⟨g, q * 3 + j, none⟩ = some u := fun W hW g e q y hy j u hj => by
    obtain ⟨g', e', _, h2, h3⟩ := h.1 (by have := (List.getElem?_eq_some_iff.1 hy).1; omega)
    rw [e] at e'
    injection e' with e'
    injection e' with e'
    subst e'
    exact (hW.cell (p := ⟨g, q * 3 + j, none⟩) h2).trans (h3 q y hy j u hj)
  have hadd : ∀ (g o j : Nat), (⟨g, o, none⟩ : Addr).add j = ⟨g, o + j, none⟩ := fun g o j => by unfold Addr.add; split <;> simp_all
  obtain ⟨v1, w1, hr1, ho1, hg1⟩ := app_sl ho0 (Nat.le_refl _) A p c (l.take p) (by rw [List.length_take]; omega) (by omega) (fun e => by have := h.2.2.1 e; have := h.2.1; omega) (fun a e j u hu => by
    obtain ⟨q, y, o, e1, e2, e3⟩ := flat_cell (sz := 3) (fun _ => rfl) _ _ _ hu
    obtain ⟨g, rfl⟩ := h.2.2.2 a e
    rw [hadd, e3, Nat.zero_add]
    have hq : l[q]? = some y := by
      rw [List.getElem?_take] at e1
      split at e1
      · exact e1
      · cases e1
    exact hcell w (Below.refl _ _) g e q y hq o u e2) 70
  rw [Nat.zero_add, List.nil_append] at ho1
  have B1 : Below w.heap.size w w1 := grown_below (Below.refl _ _) ho0 hg1
  obtain ⟨W2, hW2⟩ : ∃ W2, W2 = w1.alloc (.cells #[.string x.1, .int .i64 x.2.1, .int .i64 x.2.2] 78) := ⟨_, rfl⟩
  have ho2 : W2.ownsRow w.heap.size 78 3 v1 p ((l.take p).flatMap dgC) := by
    rw [hW2]
    exact own_block ho1 fun g e => Below.heap_alloc w1 _ g (ho1.lt g e).2
  have RN : RowB W2 w1.heap.size 78 #[.string x.1, .int .i64 x.2.1, .int .i64 x.2.2] := by rw [hW2]; exact RowB.new w1 78 _
  have B2 : Below w.heap.size w W2 := by rw [hW2]; exact B1.alloc B1.size _
  obtain ⟨v2, w3, hr2, ho3, hg2, _⟩ := app_at (w := W2) (t := 70) (e := 78) (size := 3) (bytes := 32) (by kernel_rfl) info67 rfl (by decide) (by decide) w.heap.size v1 _ _ ho2 _ _ RN rfl (by intro u hu; simp at hu; rcases hu with rfl | rfl | rfl <;> rfl) (by omega) B2.size 70
  have B3 : Below w.heap.size w w3 := grown_below B2 ho2 hg2
  obtain ⟨v3, w4, hr3, ho4, hg3⟩ := app_sl ho3 B3.size A' (l.length - p) c' (l.drop p) (by rw [List.length_drop]) (by omega) (fun e => by
    cases hA : A with
    | none => have := h.2.2.1 hA; have := h.2.1; exact ⟨by omega, (hA' hA).2⟩
    | some a =>
      obtain ⟨g, rfl⟩ := h.2.2.2 a hA
      obtain ⟨⟨a', ha'⟩, _⟩ := hA2 g hA
      rw [ha'] at e
      cases e) (fun a e j u hu => by
    obtain ⟨q, y, o, e1, e2, e3⟩ := flat_cell (sz := 3) (fun _ => rfl) _ _ _ hu
    rw [List.getElem?_drop] at e1
    have hpl : p < l.length := by have := (List.getElem?_eq_some_iff.1 e1).1; omega
    cases hA : A with
    | none => rw [(hA' hA).1] at e; cases e
    | some a0 =>
      obtain ⟨g, rfl⟩ := h.2.2.2 a0 hA
      have e4 := (hA2 g hA).2 hpl
      rw [e] at e4
      injection e4 with e4
      subst e4
      rw [hadd, e3, show p * 3 + (q * 3 + o) = (p + q) * 3 + o by omega]
      exact hcell w3 B3 g hA _ y e1 o u e2) 70
  obtain ⟨A4, c4, rfl, hc4⟩ := own_shape ho4
  have B4 : Below w.heap.size w w4 := grown_below B3 ho3 hg3
  have hlen : p + 1 + (l.length - p) = l.length + 1 := by omega
  have hxs : (l.take p).flatMap dgC ++ (#[Value.string x.1, .int .i64 x.2.1, .int .i64 x.2.2] : Array Value).toList ++ (l.drop p).flatMap dgC = (l.take p ++ [x] ++ l.drop p).flatMap dgC := by
    rw [List.flatMap_append, List.flatMap_append]; rfl
  rw [hxs] at ho4
  have hll : p + 1 + (l.length - p) = (l.take p ++ [x] ++ l.drop p).length := by simp; omega
  have hrow := RowAt.of_own ho4 (fun _ => rfl) hll
  rw [hlen] at ho4 hr3 hc4
  refine ⟨v1, w1, v2, w3, A4, c4, w4, hr1, by rw [← hW2]; exact hr2, hr3, ⟨fun h0 => ?_, by rw [← hll, hlen]; exact hc4, fun e => ?_, fun a e => ?_⟩, B1, B3, B4⟩
  · obtain ⟨g, e, h1, h2, h3⟩ := hrow h0
    exact ⟨g, e, by omega, h2, h3⟩
  · subst e
    rcases ho4.2 with ⟨_, e2⟩ | ⟨g, cap, cur, e2, _⟩
    · exact absurd e2 (by omega)
    · cases e2
  · subst e
    rcases ho4.2 with ⟨e2, _⟩ | ⟨g, cap, cur, e2, _⟩
    · cases e2
    · injection e2 with e2
      injection e2 with e2
      exact ⟨g, e2⟩
theorem sz67 (w : World) : (sizeOf (Tryz.prog.elem 70)).run Tryz.prog w = .ok 3 w := by kernel_rfl
theorem u38 : Tryz.prog.underlying 70 = some (.slice (Tryz.prog.elem 70)) := by kernel_rfl
theorem sl_h {A : Option Addr} {c i p : Nat} (hp : p ≤ c) (hA : ∀ a, A = some a → ∃ g, a = ⟨g, 0, none⟩) (w : World) : (Instr.slice 70 (.slice A i c) none (some (.int .i64 (p : Int))) none).run Tryz.prog w = .ok (.slice A p c) w := by
  rw [run_slice_h w 70 A i c u38 .i64 (p : Int) (by omega) (by omega), sz67]
  simp only [Result.andThen, sliced, Int.toNat_natCast, Nat.zero_mul, Nat.sub_zero]
  congr 1
  cases A with
  | none => simp
  | some a =>
    obtain ⟨g, rfl⟩ := hA a rfl
    simp [Addr.add]
def cutA (A : Option Addr) (c p : Nat) : Option Addr := if c = p then A else A.map (·.add (p * 3))
theorem sl_l {A : Option Addr} {c i p : Nat} (hp : p ≤ i) (_hi : i ≤ c) (w : World) : (Instr.slice 70 (.slice A i c) (some (.int .i64 (p : Int))) none none).run Tryz.prog w = .ok (.slice (cutA A c p) (i - p) (c - p)) w := by
  rw [run_slice_l w 70 A i c u38 .i64 (p : Int) (by omega) (by omega), sz67]
  simp only [Result.andThen, sliced, Int.toNat_natCast, cutA]
theorem cutA_none {c p : Nat} : cutA none c p = none := by unfold cutA; split <;> rfl
theorem cutA_some {g c p : Nat} : ∃ a, cutA (some ⟨g, 0, none⟩) c p = some a := by unfold cutA; split; exact ⟨_, rfl⟩; exact ⟨_, rfl⟩
theorem cutA_lt {g c p : Nat} (h : p < c) : cutA (some ⟨g, 0, none⟩) c p = some ⟨g, p * 3, none⟩ := by
  unfold cutA
  rw [if_neg (by omega)]
  simp [Addr.add]
  omega
structure AppR (ty : TypeId) (vs vx : Value) (w : World) (v' : Value) (w' : World) : Prop where
  run : (Builtin.append_ #[70, 70] ty #[vs, vx]).run Tryz.prog w = .ok v' w'
theorem wpl_app (w : World) {ops : Array Oper} {rest : List Oper} {o : Oper} {a : Act} {Q : Exit → Act → World → Prop} (hgd : o.guard = none) (s x : Operand)
    (ho : o.op = .call { callee := .builtin .append, args := #[s, x], argTypes := #[70, 70] }) (ty : TypeId) (hty : o.type = ty) (vs vx : Value) (hs : a.eval s = vs) (hx : a.eval x = vx)
    (v' : Value) (w' : World) (hr : AppR ty vs vx w v' w') (h : wpList Tryz.prog ops Q rest (a.put o.dst v') w') : wpList Tryz.prog ops Q (o :: rest) a w := by
  subst hty
  exact Lib.wpList_append_run w hgd s x 70 70 ho vs vx hs hx v' w' hr.run h
end Sd
end Go.Proofs.YthjflofcgdfekaaGreatDoor
