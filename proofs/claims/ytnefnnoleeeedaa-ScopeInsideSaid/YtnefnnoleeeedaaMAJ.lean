/- Mathematics: how deep trees are that are read. -/
import Derived.Test.YtnefnnoleeeedaaMAI
import Derived.Deep.LoopGhost
import Derived.Test.YtnefnnoleeeedaaMAH
import Derived.Test.YtnefnnoleeeedaaMAC
import Derived.Deep.RegionWith
import Derived.Test.YtnefnnoleeeedaaMAB
import Derived.Lib.Builder
import Derived.Lib.AppendStr
import Derived.Lib.OthersKept
import Derived.Test.YtnefnnoleeeedaaMAA
import Derived.RegionTactic
namespace Go.Proofs.Ytnefnnoleeeedaa
namespace Ps
variable {l : List Tok}
/-- How many nodes stand one below the other, at most, among nodes beside one another. -/
def Fo.deep : Fo → Nat
  | .nil => 0
  | .cons _ k r => max (1 + k.deep) r.deep
theorem Fo.deep_one (h : Hd) (k : Fo) : (Fo.one h k).deep = 1 + k.deep := by simp [Fo.one, Fo.deep]
theorem Fo.deep_app : ∀ a b : Fo, (a.app b).deep = max a.deep b.deep
  | .nil, b => by simp [Fo.app, Fo.deep]
  | .cons h k r, b => by rw [Fo.app, Fo.deep, Fo.deep, Fo.deep_app r]; omega
theorem Fo.deep_zero : Fo.zero.deep = 1 := rfl
theorem ty_deep : ∀ (f : Nat) (t : TT) (b : Int) (i : Nat) (r : Fo × Nat × Int), tyM l f t b i = some r → r.1.deep ≤ 2 * f := by
  intro f
  induction f with
  | zero => intro t b i r h; rw [tyM] at h; cases h
  | succ f ih =>
    intro t b i r h
    cases t with
    | kind =>
      rw [tyM] at h
      split at h
      · injection h with h; rw [← h]; simp only [Fo.deep_zero]; omega
      · split at h
        · injection h with h; rw [← h]; simp only [Fo.deep_one, Fo.deep]; omega
        · split at h
          · injection h with h; rw [← h]; simp only [Fo.deep_one, Fo.deep]; omega
          · split at h
            · injection h with h; rw [← h]; simp only [Fo.deep_one, Fo.deep]; omega
            · split at h
              · obtain ⟨x, hx, h⟩ := Option.bind_eq_some_iff.1 h
                have := ih _ _ _ _ hx
                injection h with h; rw [← h]; simp only [Fo.deep_one]; omega
              · obtain ⟨x, hx, h⟩ := Option.bind_eq_some_iff.1 h
                obtain ⟨t, ht, h⟩ := Option.bind_eq_some_iff.1 h
                have := ih _ _ _ _ hx
                have := ih _ _ _ _ ht
                injection h with h; rw [← h]; simp only [Fo.deep_one, Fo.deep_app]; omega
    | recL first =>
      rw [tyM] at h
      split at h
      · obtain ⟨t, ht, h⟩ := Option.bind_eq_some_iff.1 h
        have := ih _ _ _ _ ht
        split at h
        · injection h with h; rw [← h]; simp only [Fo.deep_one]; omega
        · obtain ⟨x, hx, h⟩ := Option.map_eq_some_iff.1 h
          have := ih _ _ _ _ hx
          rw [← h]; simp only [Fo.deep_one, Fo.deep_app]; omega
      · injection h with h; rw [← h]; simp only [Fo.deep]; omega
    | fnL first =>
      rw [tyM] at h
      split at h
      · obtain ⟨t, ht, h⟩ := Option.bind_eq_some_iff.1 h
        have := ih _ _ _ _ ht
        split at h
        · injection h with h; rw [← h]; dsimp only; omega
        · obtain ⟨x, hx, h⟩ := Option.map_eq_some_iff.1 h
          have := ih _ _ _ _ hx
          rw [← h]; simp only [Fo.deep_app]; omega
      · injection h with h; rw [← h]; simp only [Fo.deep]; omega
theorem typed_deep {f : Nat} {b : Int} {i : Nat} {r : Fo × Nat × Int} (h : typedM l f b i = some r) : r.1.deep ≤ 2 * f + 1 := by
  unfold typedM at h
  split at h
  · injection h with h; rw [← h]; simp only [Fo.deep_zero]; omega
  · have := ty_deep _ _ _ _ _ h; omega
theorem par_deep : ∀ (f : Nat) (first : Bool) (b : Int) (i : Nat) (r : Fo × Nat × Int), parL l f first b i = some r → r.1.deep ≤ 2 * f := by
  intro f
  induction f with
  | zero => intro first b i r h; rw [parL] at h; cases h
  | succ f ih =>
    intro first b i r h
    rw [parL] at h
    split at h
    · obtain ⟨t, ht, h⟩ := Option.bind_eq_some_iff.1 h
      have := typed_deep ht
      split at h
      · injection h with h; rw [← h]; simp only [Fo.deep_one]; omega
      · obtain ⟨x, hx, h⟩ := Option.map_eq_some_iff.1 h
        have := ih _ _ _ _ hx
        rw [← h]; simp only [Fo.deep_one, Fo.deep_app]; omega
    · injection h with h; rw [← h]; simp only [Fo.deep]; omega
theorem params_deep {f : Nat} {b : Int} {i : Nat} {r : Fo × Nat × Int} (h : paramsM l f b i = some r) : r.1.deep ≤ 2 * f + 1 := by
  unfold paramsM at h
  obtain ⟨x, hx, h⟩ := Option.bind_eq_some_iff.1 h
  have := par_deep _ _ _ _ _ hx
  injection h with h; rw [← h]; simp only [Fo.deep_one]; omega
def dB : Nat → Nat
  | 0 => 0
  | f + 1 => dB f + f + 2
theorem dB_ge : ∀ f, 2 * f ≤ dB f
  | 0 => Nat.le_refl _
  | f + 1 => by have := dB_ge f; rw [dB]; omega
def dA (f : Nat) : XT → Nat
  | .sumL a | .termL a | .postL a => max a.deep (dB f) + f
  | _ => dB f
theorem ex_deep : ∀ (f : Nat) (t : XT) (b : Int) (i : Nat) (r : Fo × Nat × Int), exM l f t b i = some r → r.1.deep ≤ dA f t := by
  intro f
  induction f with
  | zero => intro t b i r h; rw [exM] at h; cases h
  | succ f ih =>
    intro t b i r h
    have hg := dB_ge f
    cases t with
    | lambda =>
      rw [exM] at h
      obtain ⟨p, h1, h⟩ := Option.bind_eq_some_iff.1 h
      obtain ⟨t, h2, h⟩ := Option.bind_eq_some_iff.1 h
      obtain ⟨k, h3, h⟩ := Option.bind_eq_some_iff.1 h
      have := params_deep h1
      have := typed_deep h2
      have := ih _ _ _ _ h3
      injection h with h; rw [← h]; simp only [Fo.deep_app, dA, dB] at *; omega
    | block =>
      rw [exM] at h
      obtain ⟨x, h1, h⟩ := Option.bind_eq_some_iff.1 h
      have := ih _ _ _ _ h1
      injection h with h; rw [← h]; simp only [Fo.deep_one, dA, dB] at *; omega
    | stmts =>
      rw [exM] at h
      split at h
      · obtain ⟨x, h1, h⟩ := Option.bind_eq_some_iff.1 h
        obtain ⟨y, h2, h⟩ := Option.map_eq_some_iff.1 h
        have := ih _ _ _ _ h1
        have := ih _ _ _ _ h2
        rw [← h]; simp only [Fo.deep_app, dA, dB] at *; omega
      · injection h with h; rw [← h]; simp only [Fo.deep, dA, dB]; omega
    | stmt =>
      rw [exM] at h
      split at h
      · obtain ⟨c, h1, h⟩ := Option.bind_eq_some_iff.1 h
        obtain ⟨k, h2, h⟩ := Option.bind_eq_some_iff.1 h
        have := ih _ _ _ _ h1
        have := ih _ _ _ _ h2
        split at h
        · obtain ⟨o, h3, h⟩ := Option.bind_eq_some_iff.1 h
          have := ih _ _ _ _ h3
          injection h with h; rw [← h]; simp only [Fo.deep_one, Fo.deep_app, dA, dB] at *; omega
        · injection h with h; rw [← h]; simp only [Fo.deep_one, Fo.deep_app, Fo.deep_zero, dA, dB] at *; omega
      · split at h
        · obtain ⟨c, h1, h⟩ := Option.bind_eq_some_iff.1 h
          obtain ⟨k, h2, h⟩ := Option.bind_eq_some_iff.1 h
          have := ih _ _ _ _ h1
          have := ih _ _ _ _ h2
          injection h with h; rw [← h]; simp only [Fo.deep_one, Fo.deep_app, dA, dB] at *; omega
        · split at h
          · obtain ⟨t, h1, h⟩ := Option.bind_eq_some_iff.1 h
            obtain ⟨v, h2, h⟩ := Option.bind_eq_some_iff.1 h
            have := typed_deep h1
            have := ih _ _ _ _ h2
            injection h with h; rw [← h]; simp only [Fo.deep_one, Fo.deep_app, dA, dB] at *; omega
          · obtain ⟨v, h2, h⟩ := Option.bind_eq_some_iff.1 h
            have := ih _ _ _ _ h2
            injection h with h; rw [← h]; simp only [Fo.deep_one, dA, dB] at *; omega
    | expr =>
      rw [exM] at h
      obtain ⟨a, h1, h⟩ := Option.bind_eq_some_iff.1 h
      have := ih _ _ _ _ h1
      split at h
      · injection h with h; rw [← h]; simp only [dA, dB] at *; omega
      · obtain ⟨c, h2, h⟩ := Option.bind_eq_some_iff.1 h
        have := ih _ _ _ _ h2
        injection h with h; rw [← h]; simp only [Fo.deep_one, Fo.deep_app, dA, dB] at *; omega
    | sum =>
      rw [exM] at h
      obtain ⟨a, h1, h⟩ := Option.bind_eq_some_iff.1 h
      have := ih _ _ _ _ h1
      have := ih _ _ _ _ h
      simp only [dA, dB] at *; omega
    | term =>
      rw [exM] at h
      obtain ⟨a, h1, h⟩ := Option.bind_eq_some_iff.1 h
      have := ih _ _ _ _ h1
      have := ih _ _ _ _ h
      simp only [dA, dB] at *; omega
    | post =>
      rw [exM] at h
      obtain ⟨a, h1, h⟩ := Option.bind_eq_some_iff.1 h
      have := ih _ _ _ _ h1
      have := ih _ _ _ _ h
      simp only [dA, dB] at *; omega
    | sumL a =>
      rw [exM] at h
      split at h
      · obtain ⟨c, h1, h⟩ := Option.bind_eq_some_iff.1 h
        have := ih _ _ _ _ h1
        have := ih _ _ _ _ h
        simp only [Fo.deep_one, Fo.deep_app, dA, dB] at *; omega
      · injection h with h; rw [← h]; simp only [dA, dB]; omega
    | termL a =>
      rw [exM] at h
      split at h
      · obtain ⟨c, h1, h⟩ := Option.bind_eq_some_iff.1 h
        have := ih _ _ _ _ h1
        have := ih _ _ _ _ h
        simp only [Fo.deep_one, Fo.deep_app, dA, dB] at *; omega
      · injection h with h; rw [← h]; simp only [dA, dB]; omega
    | postL a =>
      rw [exM] at h
      split at h
      · split at h
        · have := ih _ _ _ _ h
          simp only [Fo.deep_one, dA, dB] at *; omega
        · obtain ⟨k, h1, h⟩ := Option.bind_eq_some_iff.1 h
          have := ih _ _ _ _ h1
          have := ih _ _ _ _ h
          simp only [Fo.deep_one, Fo.deep_app, dA, dB] at *; omega
      · injection h with h; rw [← h]; simp only [dA, dB]; omega
    | args first =>
      rw [exM] at h
      split at h
      · obtain ⟨t, h1, h⟩ := Option.bind_eq_some_iff.1 h
        have := ih _ _ _ _ h1
        split at h
        · injection h with h; rw [← h]; simp only [dA, dB] at *; omega
        · obtain ⟨y, h2, h⟩ := Option.map_eq_some_iff.1 h
          have := ih _ _ _ _ h2
          rw [← h]; simp only [Fo.deep_app, dA, dB] at *; omega
      · injection h with h; rw [← h]; simp only [Fo.deep, dA, dB]; omega
    | atom =>
      rw [exM] at h
      split at h
      · injection h with h; rw [← h]; simp only [Fo.deep_zero, dA, dB]; omega
      · split at h
        · injection h with h; rw [← h]; simp only [Fo.deep_one, Fo.deep, dA, dB]; omega
        · split at h
          · injection h with h; rw [← h]; simp only [Fo.deep_one, Fo.deep, dA, dB]; omega
          · split at h
            · injection h with h; rw [← h]; simp only [Fo.deep_one, Fo.deep, dA, dB]; omega
            · split at h
              · injection h with h; rw [← h]; simp only [Fo.deep_one, Fo.deep, dA, dB]; omega
              · split at h
                · obtain ⟨x, h1, h⟩ := Option.bind_eq_some_iff.1 h
                  have := ih _ _ _ _ h1
                  injection h with h; rw [← h]; simp only [Fo.deep_one, dA, dB] at *; omega
                · split at h
                  · obtain ⟨x, h1, h⟩ := Option.bind_eq_some_iff.1 h
                    have := ih _ _ _ _ h1
                    injection h with h; rw [← h]; simp only [Fo.deep_one, dA, dB] at *; omega
                  · obtain ⟨x, h1, h⟩ := Option.bind_eq_some_iff.1 h
                    have := ih _ _ _ _ h1
                    injection h with h; rw [← h]; simp only [Fo.deep_one, dA, dB] at *; omega
    | entries first =>
      rw [exM] at h
      split at h
      · obtain ⟨t, h1, h⟩ := Option.bind_eq_some_iff.1 h
        have := ih _ _ _ _ h1
        split at h
        · injection h with h; rw [← h]; simp only [Fo.deep_one, dA, dB] at *; omega
        · obtain ⟨y, h2, h⟩ := Option.map_eq_some_iff.1 h
          have := ih _ _ _ _ h2
          rw [← h]; simp only [Fo.deep_one, Fo.deep_app, dA, dB] at *; omega
      · injection h with h; rw [← h]; simp only [Fo.deep, dA, dB]; omega
theorem dB_mono {f g : Nat} (h : f ≤ g) : dB f ≤ dB g := by
  induction g with
  | zero => rw [Nat.le_zero.1 h]; exact Nat.le_refl _
  | succ g ih =>
    by_cases e : f = g + 1
    · rw [e]; exact Nat.le_refl _
    · have := ih (by omega); rw [dB]; omega
theorem items_deep : ∀ (f g : Nat) (b : Int) (i : Nat) (r : Fo × Nat × Int), f ≤ g → itemsM l f b i = some r → r.1.deep ≤ dB g + 2 := by
  intro f
  induction f with
  | zero => intro g b i r _ h; rw [itemsM] at h; cases h
  | succ f ih =>
    intro g b i r hf h
    rw [itemsM] at h
    split at h
    · split at h
      · obtain ⟨x, h1, h⟩ := Option.map_eq_some_iff.1 h
        have := ih g _ _ _ (by omega) h1
        have hu : (useM l b i).1.deep = 2 := by unfold useM; simp only [Fo.deep_one, Fo.deep]
        rw [← h]; simp only [Fo.deep_app, hu]; omega
      · obtain ⟨t, h1, h⟩ := Option.bind_eq_some_iff.1 h
        obtain ⟨x, h2, h⟩ := Option.map_eq_some_iff.1 h
        have := ih g _ _ _ (by omega) h2
        have hd : t.1.deep ≤ dB f + 1 := by
          unfold defM at h1
          obtain ⟨k, h3, h1⟩ := Option.bind_eq_some_iff.1 h1
          have := ex_deep _ _ _ _ _ h3
          injection h1 with h1; rw [← h1]; simp only [Fo.deep_one, dA] at *; omega
        have := dB_mono (f := f) (g := g) (by omega)
        rw [← h]; simp only [Fo.deep_app]; omega
    · injection h with h; rw [← h]; simp only [Fo.deep]; omega
theorem dB_le : ∀ f, f ≤ 1000000 → dB f ≤ f * 1000003
  | 0, _ => Nat.le_refl _
  | f + 1, h => by have := dB_le f (by omega); rw [dB, Nat.add_mul]; omega
theorem items_deep' {r : Fo × Nat × Int} (h : itemsM l fuel (-1) 0 = some r) : r.1.deep ≤ 900000000000 := by
  have h1 := items_deep fuel fuel (-1) 0 r (Nat.le_refl _) h
  have h2 := dB_le fuel (by unfold fuel; omega)
  unfold fuel at *
  omega
end Ps
end Go.Proofs.Ytnefnnoleeeedaa

/- Mathematics: how many nodes stand beside one another. -/
namespace Go.Proofs.Ytnefnnoleeeedaa
namespace Ps
variable {l : List Tok}
/-- How many kids a node has, at most. -/
def Fo.wide : Fo → Nat
  | .nil => 0
  | .cons _ k r => max (max k.len k.wide) r.wide
theorem Fo.wide_one (h : Hd) (k : Fo) : (Fo.one h k).wide = max k.len k.wide := by simp [Fo.one, Fo.wide]
theorem Fo.wide_app : ∀ a b : Fo, (a.app b).wide = max a.wide b.wide
  | .nil, b => by simp [Fo.app, Fo.wide]
  | .cons h k r, b => by rw [Fo.app, Fo.wide, Fo.wide, Fo.wide_app r]; omega
theorem Fo.wide_zero : Fo.zero.wide = 0 := rfl
theorem Fo.len_zero : Fo.zero.len = 1 := rfl
theorem Fo.len_one (h : Hd) (k : Fo) : (Fo.one h k).len = 1 := rfl
def lT (f : Nat) : TT → Nat
  | .kind => 1
  | _ => f
def wL (f : Nat) : XT → Nat
  | .lambda => 3
  | .stmts | .args _ | .entries _ => f
  | .sumL a | .termL a | .postL a => max a.len 1
  | _ => 1
def wW (f : Nat) : XT → Nat
  | .sumL a | .termL a | .postL a => max (max a.wide (a.len + f)) (f + 3)
  | _ => f + 3
theorem ty_wide : ∀ (f : Nat) (t : TT) (b : Int) (i : Nat) (r : Fo × Nat × Int), tyM l f t b i = some r → (r.1.len ≤ lT f t ∧ r.1.wide ≤ f + 3) := by
  intro f
  induction f with
  | zero => intro t b i r h; rw [tyM] at h; cases h
  | succ f ih =>
    intro t b i r h
    cases t with
    | kind =>
      rw [tyM] at h
      split at h
      · injection h with h; rw [← h]; simp only [Fo.wide_zero, Fo.len_zero, lT] at *; omega
      · split at h
        · injection h with h; rw [← h]; simp only [Fo.wide_one, Fo.len_one, Fo.wide, Fo.len, lT] at *; omega
        · split at h
          · injection h with h; rw [← h]; simp only [Fo.wide_one, Fo.len_one, Fo.wide, Fo.len, lT] at *; omega
          · split at h
            · injection h with h; rw [← h]; simp only [Fo.wide_one, Fo.len_one, Fo.wide, Fo.len, lT] at *; omega
            · split at h
              · obtain ⟨x, hx, h⟩ := Option.bind_eq_some_iff.1 h
                have := ih _ _ _ _ hx
                injection h with h; rw [← h]; simp only [Fo.wide_one, Fo.len_one, lT] at *; omega
              · obtain ⟨x, hx, h⟩ := Option.bind_eq_some_iff.1 h
                obtain ⟨t, ht, h⟩ := Option.bind_eq_some_iff.1 h
                have := ih _ _ _ _ hx
                have := ih _ _ _ _ ht
                injection h with h; rw [← h]; simp only [Fo.wide_one, Fo.wide_app, Fo.len_app, Fo.len_one, lT] at *; omega
    | recL first =>
      rw [tyM] at h
      split at h
      · obtain ⟨t, ht, h⟩ := Option.bind_eq_some_iff.1 h
        have := ih _ _ _ _ ht
        split at h
        · injection h with h; rw [← h]; simp only [Fo.wide_one, Fo.len_one, lT] at *; omega
        · obtain ⟨x, hx, h⟩ := Option.map_eq_some_iff.1 h
          have := ih _ _ _ _ hx
          rw [← h]; simp only [Fo.wide_one, Fo.wide_app, Fo.len_app, Fo.len_one, lT] at *; omega
      · injection h with h; rw [← h]; simp only [Fo.wide, Fo.len, lT] at *; omega
    | fnL first =>
      rw [tyM] at h
      split at h
      · obtain ⟨t, ht, h⟩ := Option.bind_eq_some_iff.1 h
        have := ih _ _ _ _ ht
        split at h
        · injection h with h; rw [← h]; simp only [lT] at *; omega
        · obtain ⟨x, hx, h⟩ := Option.map_eq_some_iff.1 h
          have := ih _ _ _ _ hx
          rw [← h]; simp only [Fo.wide_app, Fo.len_app, lT] at *; omega
      · injection h with h; rw [← h]; simp only [Fo.wide, Fo.len, lT] at *; omega
theorem typed_wide {f : Nat} {b : Int} {i : Nat} {r : Fo × Nat × Int} (h : typedM l f b i = some r) : r.1.len ≤ 1 ∧ r.1.wide ≤ f + 3 := by
  unfold typedM at h
  split at h
  · injection h with h; rw [← h]; simp only [Fo.wide_zero, Fo.len_zero] at *; omega
  · have := ty_wide _ _ _ _ _ h; simp only [lT] at this; omega
theorem par_wide : ∀ (f : Nat) (first : Bool) (b : Int) (i : Nat) (r : Fo × Nat × Int), parL l f first b i = some r → (r.1.len ≤ f ∧ r.1.wide ≤ f + 3) := by
  intro f
  induction f with
  | zero => intro first b i r h; rw [parL] at h; cases h
  | succ f ih =>
    intro first b i r h
    rw [parL] at h
    split at h
    · obtain ⟨t, ht, h⟩ := Option.bind_eq_some_iff.1 h
      have := typed_wide ht
      split at h
      · injection h with h; rw [← h]; simp only [Fo.wide_one, Fo.len_one] at *; omega
      · obtain ⟨x, hx, h⟩ := Option.map_eq_some_iff.1 h
        have := ih _ _ _ _ hx
        rw [← h]; simp only [Fo.wide_one, Fo.wide_app, Fo.len_app, Fo.len_one] at *; omega
    · injection h with h; rw [← h]; simp only [Fo.wide, Fo.len] at *; omega
theorem params_wide {f : Nat} {b : Int} {i : Nat} {r : Fo × Nat × Int} (h : paramsM l f b i = some r) : r.1.len ≤ 1 ∧ r.1.wide ≤ f + 3 := by
  unfold paramsM at h
  obtain ⟨x, hx, h⟩ := Option.bind_eq_some_iff.1 h
  have := par_wide _ _ _ _ _ hx
  injection h with h; rw [← h]; simp only [Fo.wide_one, Fo.len_one] at *; omega
theorem ex_wide : ∀ (f : Nat) (t : XT) (b : Int) (i : Nat) (r : Fo × Nat × Int), exM l f t b i = some r → (r.1.len ≤ wL f t ∧ r.1.wide ≤ wW f t) := by
  intro f
  induction f with
  | zero => intro t b i r h; rw [exM] at h; cases h
  | succ f ih =>
    intro t b i r h
    cases t with
    | lambda =>
      rw [exM] at h
      obtain ⟨p, h1, h⟩ := Option.bind_eq_some_iff.1 h
      obtain ⟨t, h2, h⟩ := Option.bind_eq_some_iff.1 h
      obtain ⟨k, h3, h⟩ := Option.bind_eq_some_iff.1 h
      have := params_wide h1
      have := typed_wide h2
      have := ih _ _ _ _ h3
      injection h with h; rw [← h]; simp only [Fo.wide_app, Fo.len_app, wL, wW] at *; omega
    | block =>
      rw [exM] at h
      obtain ⟨x, h1, h⟩ := Option.bind_eq_some_iff.1 h
      have := ih _ _ _ _ h1
      injection h with h; rw [← h]; simp only [Fo.wide_one, Fo.len_one, wL, wW] at *; omega
    | stmts =>
      rw [exM] at h
      split at h
      · obtain ⟨x, h1, h⟩ := Option.bind_eq_some_iff.1 h
        obtain ⟨y, h2, h⟩ := Option.map_eq_some_iff.1 h
        have := ih _ _ _ _ h1
        have := ih _ _ _ _ h2
        rw [← h]; simp only [Fo.wide_app, Fo.len_app, wL, wW] at *; omega
      · injection h with h; rw [← h]; simp only [Fo.wide, Fo.len, wL, wW] at *; omega
    | stmt =>
      rw [exM] at h
      split at h
      · obtain ⟨c, h1, h⟩ := Option.bind_eq_some_iff.1 h
        obtain ⟨k, h2, h⟩ := Option.bind_eq_some_iff.1 h
        have := ih _ _ _ _ h1
        have := ih _ _ _ _ h2
        split at h
        · obtain ⟨o, h3, h⟩ := Option.bind_eq_some_iff.1 h
          have := ih _ _ _ _ h3
          injection h with h; rw [← h]; simp only [Fo.wide_one, Fo.wide_app, Fo.len_app, Fo.len_one, wL, wW] at *; omega
        · injection h with h; rw [← h]; simp only [Fo.wide_one, Fo.wide_app, Fo.wide_zero, Fo.len_app, Fo.len_one, Fo.len_zero, wL, wW] at *; omega
      · split at h
        · obtain ⟨c, h1, h⟩ := Option.bind_eq_some_iff.1 h
          obtain ⟨k, h2, h⟩ := Option.bind_eq_some_iff.1 h
          have := ih _ _ _ _ h1
          have := ih _ _ _ _ h2
          injection h with h; rw [← h]; simp only [Fo.wide_one, Fo.wide_app, Fo.len_app, Fo.len_one, wL, wW] at *; omega
        · split at h
          · obtain ⟨t, h1, h⟩ := Option.bind_eq_some_iff.1 h
            obtain ⟨v, h2, h⟩ := Option.bind_eq_some_iff.1 h
            have := typed_wide h1
            have := ih _ _ _ _ h2
            injection h with h; rw [← h]; simp only [Fo.wide_one, Fo.wide_app, Fo.len_app, Fo.len_one, wL, wW] at *; omega
          · obtain ⟨v, h2, h⟩ := Option.bind_eq_some_iff.1 h
            have := ih _ _ _ _ h2
            injection h with h; rw [← h]; simp only [Fo.wide_one, Fo.len_one, wL, wW] at *; omega
    | expr =>
      rw [exM] at h
      obtain ⟨a, h1, h⟩ := Option.bind_eq_some_iff.1 h
      have := ih _ _ _ _ h1
      split at h
      · injection h with h; rw [← h]; simp only [wL, wW] at *; omega
      · obtain ⟨c, h2, h⟩ := Option.bind_eq_some_iff.1 h
        have := ih _ _ _ _ h2
        injection h with h; rw [← h]; simp only [Fo.wide_one, Fo.wide_app, Fo.len_app, Fo.len_one, wL, wW] at *; omega
    | sum =>
      rw [exM] at h
      obtain ⟨a, h1, h⟩ := Option.bind_eq_some_iff.1 h
      have := ih _ _ _ _ h1
      have := ih _ _ _ _ h
      simp only [wL, wW] at *; omega
    | term =>
      rw [exM] at h
      obtain ⟨a, h1, h⟩ := Option.bind_eq_some_iff.1 h
      have := ih _ _ _ _ h1
      have := ih _ _ _ _ h
      simp only [wL, wW] at *; omega
    | post =>
      rw [exM] at h
      obtain ⟨a, h1, h⟩ := Option.bind_eq_some_iff.1 h
      have := ih _ _ _ _ h1
      have := ih _ _ _ _ h
      simp only [wL, wW] at *; omega
    | sumL a =>
      rw [exM] at h
      split at h
      · obtain ⟨c, h1, h⟩ := Option.bind_eq_some_iff.1 h
        have := ih _ _ _ _ h1
        have := ih _ _ _ _ h
        simp only [Fo.wide_one, Fo.wide_app, Fo.len_app, Fo.len_one, wL, wW] at *; omega
      · injection h with h; rw [← h]; simp only [wL, wW] at *; omega
    | termL a =>
      rw [exM] at h
      split at h
      · obtain ⟨c, h1, h⟩ := Option.bind_eq_some_iff.1 h
        have := ih _ _ _ _ h1
        have := ih _ _ _ _ h
        simp only [Fo.wide_one, Fo.wide_app, Fo.len_app, Fo.len_one, wL, wW] at *; omega
      · injection h with h; rw [← h]; simp only [wL, wW] at *; omega
    | postL a =>
      rw [exM] at h
      split at h
      · split at h
        · have := ih _ _ _ _ h
          simp only [Fo.wide_one, Fo.len_one, wL, wW] at *; omega
        · obtain ⟨k, h1, h⟩ := Option.bind_eq_some_iff.1 h
          have := ih _ _ _ _ h1
          have := ih _ _ _ _ h
          simp only [Fo.wide_one, Fo.wide_app, Fo.len_app, Fo.len_one, wL, wW] at *; omega
      · injection h with h; rw [← h]; simp only [wL, wW] at *; omega
    | args first =>
      rw [exM] at h
      split at h
      · obtain ⟨t, h1, h⟩ := Option.bind_eq_some_iff.1 h
        have := ih _ _ _ _ h1
        split at h
        · injection h with h; rw [← h]; simp only [wL, wW] at *; omega
        · obtain ⟨y, h2, h⟩ := Option.map_eq_some_iff.1 h
          have := ih _ _ _ _ h2
          rw [← h]; simp only [Fo.wide_app, Fo.len_app, wL, wW] at *; omega
      · injection h with h; rw [← h]; simp only [Fo.wide, Fo.len, wL, wW] at *; omega
    | atom =>
      rw [exM] at h
      split at h
      · injection h with h; rw [← h]; simp only [Fo.wide_zero, Fo.len_zero, wL, wW] at *; omega
      · split at h
        · injection h with h; rw [← h]; simp only [Fo.wide_one, Fo.len_one, Fo.wide, Fo.len, wL, wW] at *; omega
        · split at h
          · injection h with h; rw [← h]; simp only [Fo.wide_one, Fo.len_one, Fo.wide, Fo.len, wL, wW] at *; omega
          · split at h
            · injection h with h; rw [← h]; simp only [Fo.wide_one, Fo.len_one, Fo.wide, Fo.len, wL, wW] at *; omega
            · split at h
              · injection h with h; rw [← h]; simp only [Fo.wide_one, Fo.len_one, Fo.wide, Fo.len, wL, wW] at *; omega
              · split at h
                · obtain ⟨x, h1, h⟩ := Option.bind_eq_some_iff.1 h
                  have := ih _ _ _ _ h1
                  injection h with h; rw [← h]; simp only [Fo.wide_one, Fo.len_one, wL, wW] at *; omega
                · split at h
                  · obtain ⟨x, h1, h⟩ := Option.bind_eq_some_iff.1 h
                    have := ih _ _ _ _ h1
                    injection h with h; rw [← h]; simp only [Fo.wide_one, Fo.len_one, wL, wW] at *; omega
                  · obtain ⟨x, h1, h⟩ := Option.bind_eq_some_iff.1 h
                    have := ih _ _ _ _ h1
                    injection h with h; rw [← h]; simp only [Fo.wide_one, Fo.len_one, wL, wW] at *; omega
    | entries first =>
      rw [exM] at h
      split at h
      · obtain ⟨t, h1, h⟩ := Option.bind_eq_some_iff.1 h
        have := ih _ _ _ _ h1
        split at h
        · injection h with h; rw [← h]; simp only [Fo.wide_one, Fo.len_one, wL, wW] at *; omega
        · obtain ⟨y, h2, h⟩ := Option.map_eq_some_iff.1 h
          have := ih _ _ _ _ h2
          rw [← h]; simp only [Fo.wide_one, Fo.wide_app, Fo.len_app, Fo.len_one, wL, wW] at *; omega
      · injection h with h; rw [← h]; simp only [Fo.wide, Fo.len, wL, wW] at *; omega
theorem items_wide : ∀ (f g : Nat) (b : Int) (i : Nat) (r : Fo × Nat × Int), f ≤ g → itemsM l f b i = some r → (r.1.len ≤ f ∧ r.1.wide ≤ g + 3) := by
  intro f
  induction f with
  | zero => intro g b i r _ h; rw [itemsM] at h; cases h
  | succ f ih =>
    intro g b i r hf h
    rw [itemsM] at h
    split at h
    · split at h
      · obtain ⟨x, h1, h⟩ := Option.map_eq_some_iff.1 h
        have := ih g _ _ _ (by omega) h1
        have hu : (useM l b i).1.len = 1 ∧ (useM l b i).1.wide = 1 := by unfold useM; simp only [Fo.wide_one, Fo.wide, Fo.len_one, Fo.len]; exact ⟨trivial, rfl⟩
        rw [← h]; simp only [Fo.wide_app, Fo.len_app, hu.1, hu.2]; omega
      · obtain ⟨t, h1, h⟩ := Option.bind_eq_some_iff.1 h
        obtain ⟨x, h2, h⟩ := Option.map_eq_some_iff.1 h
        have := ih g _ _ _ (by omega) h2
        have hd : t.1.len = 1 ∧ t.1.wide ≤ f + 3 := by
          unfold defM at h1
          obtain ⟨k, h3, h1⟩ := Option.bind_eq_some_iff.1 h1
          have := ex_wide _ _ _ _ _ h3
          simp only [wL, wW] at this
          injection h1 with h1; rw [← h1]; refine ⟨rfl, ?_⟩; simp only [Fo.wide_one]; omega
        rw [← h]; simp only [Fo.wide_app, Fo.len_app]; omega
    · injection h with h; rw [← h]; simp only [Fo.wide, Fo.len]; omega
theorem items_wide' {r : Fo × Nat × Int} (h : itemsM l fuel (-1) 0 = some r) : r.1.len ≤ 1000000 ∧ r.1.wide ≤ 1000000 := by
  have h1 := items_wide fuel fuel (-1) 0 r (Nat.le_refl _) h
  unfold fuel at *
  omega
end Ps
end Go.Proofs.Ytnefnnoleeeedaa

/- Trees in memory: a node's kids, one by one. -/
namespace Go.Proofs.Ytnefnnoleeeedaa
open Go.RowKit
namespace Ps
/-- What is behind the first i nodes. -/
def Fo.drop : Fo → Nat → Fo
  | k, 0 => k
  | .nil, _ + 1 => .nil
  | .cons _ _ r, i + 1 => r.drop i
theorem Fo.drop_zero (k : Fo) : k.drop 0 = k := by cases k <;> rfl
theorem Fo.drop_end : ∀ (k : Fo) (i : Nat), k.len ≤ i → k.drop i = .nil
  | .nil, 0, _ => rfl
  | .nil, i + 1, _ => rfl
  | .cons h k r, 0, hh => by simp [Fo.len] at hh
  | .cons h k r, i + 1, hh => by rw [Fo.drop]; exact Fo.drop_end r i (by rw [Fo.len] at hh; omega)
theorem Fo.drop_cons : ∀ (k : Fo) (i : Nat), i < k.len → ∃ h kk, k.drop i = .cons h kk (k.drop (i + 1))
  | .nil, i, hh => by simp [Fo.len] at hh
  | .cons h k r, 0, hh => ⟨h, k, by rw [Fo.drop, Fo.drop, Fo.drop_zero]⟩
  | .cons h k r, i + 1, hh => by
    obtain ⟨h', kk, e⟩ := Fo.drop_cons r i (by rw [Fo.len] at hh; omega)
    exact ⟨h', kk, by rw [Fo.drop, Fo.drop]; exact e⟩
theorem Fo.drop_len : ∀ (k : Fo) (i : Nat), (k.drop i).len = k.len - i
  | k, 0 => by rw [Fo.drop_zero]; rfl
  | .nil, i + 1 => by simp [Fo.drop, Fo.len]
  | .cons h k r, i + 1 => by rw [Fo.drop, Fo.drop_len r i, Fo.len]; omega
/-- The cells of node number i. -/
theorem FC.nth {w : World} {P : Nat → Prop} : ∀ (k : Fo) (cs : List Value) (i : Nat) (h : Hd) (kk r : Fo), FC w P k cs → k.drop i = .cons h kk r →
    ∃ A cap, KV w P kk A cap ∧ ∀ j u, [Value.int .i64 h.kind, .int .i64 h.fro, .int .i64 h.til, .string h.word, .int .i64 h.at_, .slice A kk.len cap][j]? = some u → cs[i * 6 + j]? = some u
  | .nil, cs, i, h, kk, r, hf, e => by cases i <;> simp [Fo.drop] at e
  | .cons h' k' r', cs, 0, h, kk, r, hf, e => by
    rw [Fo.drop] at e
    injection e with e1 e2 e3
    subst e1 e2 e3
    rw [FC] at hf
    obtain ⟨A, cap, cs', rfl, hc, hk, hr⟩ := hf
    refine ⟨A, cap, ⟨hc, hk⟩, fun j u hu => ?_⟩
    rw [Nat.zero_mul, Nat.zero_add, List.getElem?_append_left (List.getElem?_eq_some_iff.1 hu).1]
    exact hu
  | .cons h' k' r', cs, i + 1, h, kk, r, hf, e => by
    rw [Fo.drop] at e
    rw [FC] at hf
    obtain ⟨A, cap, cs', rfl, hc, hk, hr⟩ := hf
    obtain ⟨A2, c2, h1, h2⟩ := FC.nth r' cs' i h kk r hr e
    refine ⟨A2, c2, h1, fun j u hu => ?_⟩
    have := h2 j u hu
    rw [List.getElem?_append_right (by simp; omega)]
    rw [← this]
    congr 1
    simp only [List.length_cons, List.length_nil]
    omega
/-- Where kid number i lies. -/
theorem KV.nth {w : World} {P : Nat → Prop} {k : Fo} {A : Option Addr} {cap i : Nat} {h : Hd} {kk r : Fo} (hk : KV w P k A cap) (e : k.drop i = .cons h kk r) :
    ∃ g o A2 c2, A = some ⟨g, o, none⟩ ∧ P g ∧ g < w.heap.size ∧ KV w P kk A2 c2 ∧ w.cell? ⟨g, o + i * 6, none⟩ = some (.int .i64 h.kind) ∧ w.cell? ⟨g, o + i * 6 + 1, none⟩ = some (.int .i64 h.fro) ∧ w.cell? ⟨g, o + i * 6 + 2, none⟩ = some (.int .i64 h.til) ∧
      w.cell? ⟨g, o + i * 6 + 3, none⟩ = some (.string h.word) ∧ w.cell? ⟨g, o + i * 6 + 4, none⟩ = some (.int .i64 h.at_) ∧ w.cell? ⟨g, o + i * 6 + 5, none⟩ = some (.slice A2 kk.len c2) := by
  have hl : 0 < k.len := by
    have := Fo.drop_len k i
    rw [e, Fo.len] at this
    omega
  obtain ⟨g, o, ck, hA, hP, hg, hc, hf⟩ := hk.2 hl
  obtain ⟨A2, c2, h1, h2⟩ := FC.nth k ck i h kk r hf e
  have key := fun j u hu => hc _ _ (h2 j u hu)
  exact ⟨g, o, A2, c2, hA, hP, hg, h1, key 0 _ rfl, key 1 _ rfl, key 2 _ rfl, key 3 _ rfl, key 4 _ rfl, key 5 _ rfl⟩
theorem KV.below {w w' : World} {P : Nat → Prop} {k : Fo} {A : Option Addr} {cap : Nat} (h : KV w P k A cap) (hb : Below w.heap.size w w') : KV w' P k A cap :=
  h.keep hb.size (fun g hg hl => ⟨hb.block g hl, hg⟩)
theorem Fo.drop_bounds : ∀ (k : Fo) (i : Nat) (h : Hd) (kk r : Fo), k.drop i = .cons h kk r → kk.len ≤ k.wide ∧ kk.wide ≤ k.wide ∧ 1 + kk.deep ≤ k.deep
  | .nil, i, h, kk, r, e => by cases i <;> simp [Fo.drop] at e
  | .cons h' k' r', 0, h, kk, r, e => by
    rw [Fo.drop] at e
    injection e with e1 e2 e3
    subst e1 e2 e3
    rw [Fo.wide, Fo.deep]
    omega
  | .cons h' k' r', i + 1, h, kk, r, e => by
    rw [Fo.drop] at e
    have := Fo.drop_bounds r' i h kk r e
    rw [Fo.wide, Fo.deep]
    omega
end Ps
namespace Pg
open Ps
theorem fo_deep_cons (h : Hd) (k r : Fo) : (Fo.cons h k r).deep = max (1 + k.deep) r.deep := rfl

end Pg
end Go.Proofs.Ytnefnnoleeeedaa

/- Contracts: the document's Depth. -/
namespace Go.Proofs.Ytnefnnoleeeedaa
open Go.RowKit
namespace Pg
open Ps
set_option maxHeartbeats 4000000 in
set_option maxRecDepth 100000 in
theorem rdepth_any : ∀ (n : Nat) (h : Hd) (k : Fo) (A : Option Addr) (cap : Nat) (P : Nat → Prop) (w : World), k.deep ≤ n → n ≤ 1000000000001 → k.len ≤ 1000001 → k.wide ≤ 1000001 → KV w P k A cap →
    Calls Try.prog 34 #[nvv h A k.len cap] w fun e w' => e = .returned (.int .i64 ((1 + k.deep : Nat) : Int)) ∧ Below w.heap.size w w' := by
  intro n
  induction n using Nat.strongRecOn with
  | _ n ih =>
  intro h k A cap P w hd hn hl hw hk
  have HK := Lib.hid hk
  have IH := Lib.hid ih
  have B0 := Lib.hid (bel1 w (.cells #[.int .i64 h.kind, .int .i64 h.fro, .int .i64 h.til, .string h.word, .int .i64 h.at_, .slice A k.len cap] 25))
  have R0 := Lib.hid (RowB.new w 25 (ncc h A k.len cap))
  obtain ⟨n0, hn0⟩ : ∃ n0, n0 = k.len := ⟨_, rfl⟩
  obtain ⟨d0, hd0⟩ : ∃ d0, d0 = k.deep := ⟨_, rfl⟩
  have HN := Lib.hid hn0
  have HD := Lib.hid hd0
  have HW := Lib.hid hw
  rw [← hd0] at hd ⊢
  rw [← hn0] at hl B0 R0 ⊢
  clear hk hn0 hd0 hw ih
  go_enter Try.func34, Try.ntmps34
  go_wp2_with fail
  go_loopg [3, 4] (n0 + 1) (fun kx s3 s4 wr => ∃ (i m : Nat), s4 = .int .i64 i ∧ s3 = .int .i64 ((m : Nat) : Int) ∧ n0 - i ≤ kx ∧ i ≤ n0 ∧ 1 ≤ m ∧ m ≤ 1 + d0 ∧ Hid (max m (1 + (k.drop i).deep) = 1 + d0) ∧ Hid (Below w.heap.size w wr) ∧ Hid (RowB wr w.heap.size 25 (ncc h A n0 cap)))
  case atStart => exact ⟨0, 1, rfl, rfl, by omega, by omega, by omega, by omega, by unfold Hid; rw [Fo.drop_zero, HD.out]; omega, B0.out, R0.out⟩
  case round =>
    obtain ⟨i, m, rfl, rfl, hkx, hin, hm1, hmd, HM, HB, RA⟩ := hrel
    have ra := RA.out.cell
    by_cases hi : i < n0
    · have hil : (i : Int) < (n0 : Int) := by omega
      have hil2 : decide ((i : Int) < (n0 : Int)) = true := decide_eq_true hil
      obtain ⟨h', kk, e⟩ := Fo.drop_cons k i (by rw [← HN.out]; exact hi)
      obtain ⟨g, o, A2, c2, rfl, hP, hg, hkk, c0, c1, c2', c3, c4, c5⟩ := KV.nth (HK.out.below HB.out) e
      obtain ⟨b1, b2, b3⟩ := Fo.drop_bounds k i _ _ _ e
      have hdd : (k.drop i).deep = max (1 + kk.deep) (k.drop (i + 1)).deep := by rw [e, fo_deep_cons]
      obtain ⟨dk, hdk⟩ : ∃ dk, dk = 1 + kk.deep := ⟨_, rfl⟩
      obtain ⟨d2, hd2⟩ : ∃ d2, d2 = dk + 1 := ⟨_, rfl⟩
      obtain ⟨j, hj⟩ : ∃ j, j = i + 1 := ⟨_, rfl⟩
      have hdk2 : dk ≤ d0 := by rw [← HD.out] at b3; omega
      have e1 : IntKind.i64.wrap ((i : Int) + 1) = (j : Int) := by rw [IntKind.wrap_i64]; omega
      have e2 : IntKind.i64.wrap ((dk : Int) + 1) = (d2 : Int) := by rw [IntKind.wrap_i64]; omega
      have CC := Lib.hid (show Calls Try.prog 34 #[nvv h' A2 kk.len c2] wr fun e w'' => e = .returned (.int .i64 (dk : Int)) ∧ Below wr.heap.size wr w'' by
        rw [hdk]
        exact IH.out kk.deep (by rw [← HD.out] at b3; omega) h' kk A2 c2 P wr (Nat.le_refl _) (by rw [← HD.out] at b3; omega) (by have := HW.out; omega) (by have := HW.out; omega) hkk)
      have HM2 : Hid (max (max m d2) (1 + (k.drop j).deep) = 1 + d0) := by
        have := HM.out
        rw [hdd, ← hdk, ← hj] at this
        unfold Hid
        omega
      have hd2b : d2 ≤ 1 + d0 := by omega
      have HJ := Lib.hid hj
      clear e hkk b1 b2 b3 hdd hdk hj HM hd2 hdk2
      go_wp2_with fail
      refine CC.out.mono ?_
      rintro e2 w2 ⟨rfl, hb2⟩
      have B2 := Lib.hid (HB.out.trans (hb2.mono HB.out.size))
      have R2 := Lib.hid (RA.out.below hb2 RA.out.lt)
      clear hb2 CC HB RA ra
      by_cases hgt : m < d2
      · have g1 : (m : Int) < (d2 : Int) := by omega
        have g2 : decide ((d2 : Int) > (m : Int)) = true := decide_eq_true g1
        have g3 : decide (m < d2) = true := decide_eq_true hgt
        go_wp2_with fail
        have hj := HJ.out
        go_roundg (n0 - j)
        case measure => omega
        case rel => exact ⟨j, d2, rfl, rfl, by omega, by omega, by omega, by omega, by have := HM2.out; unfold Hid; omega, B2.out, R2.out⟩
      · have g2 : decide ((d2 : Int) > (m : Int)) = false := decide_eq_false (by omega)
        have g3 : decide (m < d2) = false := decide_eq_false hgt
        go_wp2_with fail
        have hj := HJ.out
        go_roundg (n0 - j)
        case measure => omega
        case rel => exact ⟨j, m, rfl, rfl, by omega, by omega, by omega, by omega, by have := HM2.out; unfold Hid; omega, B2.out, R2.out⟩
    · have hi2 : i = n0 := by omega
      have hm : m = 1 + d0 := by
        have := HM.out
        rw [Fo.drop_end k i (by rw [← HN.out]; omega)] at this
        simp only [Fo.deep] at this
        omega
      have hd1 : decide ((i : Int) < (n0 : Int)) = false := decide_eq_false (by omega)
      have hd2 : decide (i < n0) = false := decide_eq_false (by omega)
      have HE := Lib.hid hm
      clear hi hi2 HM hm
      go_wp2_with fail
      go_ret
      exact ⟨by rw [HE.out]; rfl, HB.out⟩
end Pg
end Go.Proofs.Ytnefnnoleeeedaa

/- Contracts: the program's reader: sums and terms. -/
namespace Go.Proofs.Ytnefnnoleeeedaa
open Go.RowKit
namespace Pg
open Ps
theorem sumL_end {l : List Tok} {f : Nat} {a : Fo} {b : Int} {i : Nat} {r : Fo × Nat × Int} (h : exM l f (.sumL a) b i = some r) (h16 : isM l i sPlus = false) (h17 : isM l i sMinus = false) : r = (a, i, b) := by
  cases f with
  | zero => rw [exM] at h; cases h
  | succ f =>
    rw [exM, if_neg (by simp [h16, h17])] at h
    injection h with h; exact h.symm
theorem termL_end {l : List Tok} {f : Nat} {a : Fo} {b : Int} {i : Nat} {r : Fo × Nat × Int} (h : exM l f (.termL a) b i = some r) (h18 : isM l i sStar = false) : r = (a, i, b) := by
  cases f with
  | zero => rw [exM] at h; cases h
  | succ f =>
    rw [exM, if_neg (by simp [h18])] at h
    injection h with h; exact h.symm
end Pg
end Go.Proofs.Ytnefnnoleeeedaa

/- Contracts: the program's reader: all of its rules. -/
namespace Go.Proofs.Ytnefnnoleeeedaa
open Go.RowKit
namespace Pg
open Ps
theorem RuleQ.any {X : Cx} {M M' : Sd → Res} {fn : Nat} (h : RuleQ X False M fn) : RuleQ X False M' fn := fun s w r h1 h2 hS => h s w r (fun hs => absurd (h1 hs).1 id) h2 hS
end Pg
end Go.Proofs.Ytnefnnoleeeedaa

/- Contracts: the program's reader: all of a text. -/
namespace Go.Proofs.Ytnefnnoleeeedaa
open Go.RowKit
namespace Pg
open Ps

/-- What reading comes to: a node; or an error, and a token. -/
inductive Out where
  | ok (h : Hd) (k : Fo)
  | bad (e a : Nat)
def wholeM (l : List Tok) (r : Fo × Sd) : Out :=
  if 0 ≤ r.2.2 then .bad 24 r.2.2.toNat
  else if r.2.1 + 1 < l.length then .bad 24 r.2.1
  else match r.1 with
    | .nil => .bad 0 0
    | .cons h k _ => if 60 < 1 + k.deep then .bad 25 0 else .ok h k
end Pg
end Go.Proofs.Ytnefnnoleeeedaa

/- Contracts: parse.Parse. -/
namespace Go.Proofs.Ytnefnnoleeeedaa
open Go.RowKit
namespace Pg
open Ps
/-- What is read of a file's tokens. -/
def parseM (l : List Tok) : Out := match itemsM l fuel (-1) 0 with
  | none => .bad 0 0
  | some q => wholeM l (.one ⟨1, 0, q.2.1, e0, 0⟩ q.1, q.2)
/-- The same in memory. -/
def OutQ (n : Nat) (w : World) (o : Out) (e : Ending) (w' : World) : Prop :=
  Below w.heap.size w w' ∧ match o with
    | .ok h k => ∃ A cap, e = .returned (.tuple #[nvv h A k.len cap, .int .i64 0, .int .i64 0]) ∧ KV w' (fun g => w.heap.size ≤ g) k A cap
    | .bad er a => e = .returned (.tuple #[nv0, .int .i64 er, .int .i64 a]) ∧ a < n
/-- A reader that is new. -/
theorem PSt.new {w w' : World} {A : Option Addr} {l : List Tok} {c B : Nat} (hT : TokAt w A l) (W : Wf2 l) (hc : l.length ≤ c) (hB : w.heap.size ≤ B) (hb : Below w.heap.size w w') (hr : RowB w' B 0 #[.slice A l.length c, .int .i64 0, .bool false, .int .i64 0]) : PSt ⟨B, A, l, c⟩ w' (0, -1) := by
  obtain ⟨g, e, hg, ht⟩ := hT W.pos
  refine ⟨hr, ⟨g, e, by dsimp only; omega, fun i hi => ?_⟩, W, hc, fun _ => W.pos, by dsimp only; omega⟩
  obtain ⟨c0, c1, c2, c3⟩ := ht i hi
  exact ⟨(hb.cell (p := ⟨g, i * 4, none⟩) hg).trans c0, (hb.cell (p := ⟨g, i * 4 + 1, none⟩) hg).trans c1, (hb.cell (p := ⟨g, i * 4 + 2, none⟩) hg).trans c2, (hb.cell (p := ⟨g, i * 4 + 3, none⟩) hg).trans c3⟩
end Pg
end Go.Proofs.Ytnefnnoleeeedaa

/- The document's example of package token holds; names and keys. -/
namespace Go.Proofs.Ytnefnnoleeeedaa
open Go.RowKit

theorem Tabs.step {w w' : World} (h : Tabs w) (hb : Below w.heap.size w w') : Tabs w' := Utf8Tabs_below h hb

end Go.Proofs.Ytnefnnoleeeedaa

/- Contracts: the text of some tokens. -/
namespace Go.Proofs.Ytnefnnoleeeedaa
open Go.RowKit

/-- The bytes of some tokens. -/
def jl (l : List Tok) : List UInt8 := l.flatMap fun t => t.lead.data.toList ++ t.text.data.toList
end Go.Proofs.Ytnefnnoleeeedaa

/- Mathematics: the tokens of a text join to it, each at its place, the end last. -/
namespace Go.Proofs.Ytnefnnoleeeedaa
open Go.RowKit

/-- What is known of the tokens from a place on. -/
def Good (s : ByteArray) (k : Nat) (l : List Tok) : Prop :=
  jl l = tl s k ∧ 0 < l.length ∧ ∀ i (h : i < l.length), l[i].at_ = k + (jl (l.take i)).length + l[i].lead.size ∧ (l[i].kind = 0 ↔ i + 1 = l.length) ∧ (l[i].text.size = 0 ↔ l[i].kind = 0)
theorem cut_tl (s : ByteArray) (a b : Nat) (h : a ≤ b) (_hb : b ≤ s.size) : tl s a = (s.extract a b).data.toList ++ tl s b := by
  unfold tl
  rw [ByteArray.data_extract, Array.toList_extract, List.extract_eq_take_drop]
  have e := List.take_append_drop (b - a) (s.data.toList.drop a)
  rw [List.drop_drop, show a + (b - a) = b by omega] at e
  exact e.symm
theorem tok_bytes (s : ByteArray) (k : Nat) (h : k ≤ s.size) : tl s k = ((tokK s k).lead.data.toList ++ (tokK s k).text.data.toList) ++ tl s (endK s k) := by
  have h1 := atK_le s k h
  have h2 := endK_le s k h
  rw [cut_tl s k (atK s k) h1.1 h1.2, cut_tl s (atK s k) (endK s k) h2.1 h2.2, List.append_assoc]
  rfl
theorem tok_lead (s : ByteArray) (k : Nat) (h : k ≤ s.size) : (tokK s k).at_ = k + (tokK s k).lead.size := by
  have h1 := atK_le s k h
  show atK s k = k + (s.extract k (atK s k)).size
  rw [ByteArray.size_extract]
  omega
theorem tok_none (s : ByteArray) (k : Nat) (h : k ≤ s.size) (he : errK s k = 0) : ((tokK s k).text.size = 0 ↔ (tokK s k).kind = 0) ∧ ((tokK s k).kind = 0 → endK s k = s.size) := by
  obtain ⟨h1, h2⟩ := first_kind (tl s (atK s k)) he
  have h3 := tok_size s k h
  have h4 : endK s k = (tokK s k).at_ + (firstL (tl s (atK s k))).2.1 := rfl
  have h5 : (tokK s k).kind = (firstL (tl s (atK s k))).1 := rfl
  have h6 := tl_len s (atK s k)
  have h7 := atK_le s k h
  have h8 := endK_le s k h
  rw [h5]
  refine ⟨⟨fun hz => h1.2 (h2.1 (by omega)), fun hz => ?_⟩, fun hz => ?_⟩
  · have := h2.2 (h1.1 hz)
    omega
  · have := h1.1 hz
    rw [this] at h6
    simp at h6
    omega
theorem lexF_good (s : ByteArray) : ∀ (f k n : Nat) (l : List Tok), k ≤ s.size → lexF s f k n = .good l → Good s k l
  | 0, k, n, l, hk, h => by simp [lexF] at h
  | f + 1, k, n, l, hk, h => by
    by_cases he : errK s k = 0
    · by_cases hn : n = 4000
      · subst hn; rw [lexF_many he] at h; cases h
      · have hb := tok_bytes s k hk
        have hl := tok_lead s k hk
        obtain ⟨hx, hz⟩ := tok_none s k hk he
        by_cases h0 : (tokK s k).kind = 0
        · rw [lexF_end he hn h0] at h
          cases h
          rw [hz h0, tl_end s s.size (Nat.le_refl _), List.append_nil] at hb
          refine ⟨by rw [hb]; simp [jl], by simp, fun i hi => ?_⟩
          obtain rfl : i = 0 := by simp at hi; omega
          simp only [List.getElem_cons_zero, List.take_zero, List.length_cons, List.length_nil]
          exact ⟨by simpa [jl] using hl, by simp [h0], hx⟩
        · rw [lexF_next he hn h0] at h
          cases hr : lexF s f (endK s k) (n + 1) with
          | bad e a => rw [hr] at h; cases h
          | good l' =>
            rw [hr] at h
            cases h
            obtain ⟨g1, g2, g3⟩ := lexF_good s f (endK s k) (n + 1) l' (endK_le s k hk).2 hr
            have hts := tok_size s k hk
            refine ⟨by rw [hb, ← g1]; simp [jl], by simp, fun i hi => ?_⟩
            cases i with
            | zero =>
              simp only [List.cons_append, List.nil_append, List.getElem_cons_zero, List.take_zero, List.length_cons]
              exact ⟨by simpa [jl] using hl, ⟨fun e => absurd e h0, fun e => by omega⟩, hx⟩
            | succ j =>
              simp only [List.cons_append, List.nil_append, List.length_cons] at hi ⊢
              obtain ⟨a1, a2, a3⟩ := g3 j (by omega)
              simp only [List.getElem_cons_succ, List.take_succ_cons]
              refine ⟨?_, by rw [a2]; omega, a3⟩
              rw [a1]
              have : (jl (tokK s k :: l'.take j)).length = (tokK s k).lead.size + (tokK s k).text.size + (jl (l'.take j)).length := by
                simp [jl, Nat.add_assoc]
              rw [this]
              omega
    · rw [lexF_err he] at h; cases h
theorem lexF_bad (s : ByteArray) : ∀ (f k n : Nat) (e a : Int), lexF s f k n = .bad e a → e ≠ 0
  | 0, k, n, e, a, h => by
    simp [lexF] at h
    omega
  | f + 1, k, n, e, a, h => by
    by_cases he : errK s k = 0
    · by_cases hn : n = 4000
      · subst hn; rw [lexF_many he] at h; injection h; omega
      · by_cases h0 : (tokK s k).kind = 0
        · rw [lexF_end he hn h0] at h; cases h
        · rw [lexF_next he hn h0] at h
          cases hr : lexF s f (endK s k) (n + 1) with
          | bad e' a' =>
            rw [hr] at h
            injection h with h1 h2
            have := lexF_bad s f (endK s k) (n + 1) e' a' hr
            omega
          | good l' => rw [hr] at h; cases h
    · rw [lexF_err he] at h
      injection h with h1 h2
      omega
theorem lexR_bad {s : ByteArray} {e a : Int} (h : lexR s = .bad e a) : e ≠ 0 := by
  unfold lexR at h
  split at h
  · injection h; omega
  · split at h
    · injection h; omega
    · exact lexF_bad s _ _ _ _ _ h
theorem lexR_good {s : ByteArray} {l : List Tok} (h : lexR s = .good l) : Good s 0 l ∧ s.size ≤ 16384 := by
  unfold lexR at h
  split at h
  · cases h
  · split at h
    · cases h
    · exact ⟨lexF_good s _ _ _ _ (by omega) h, by omega⟩
end Go.Proofs.Ytnefnnoleeeedaa

/- Mathematics: the tokens of a text are such as a reader wants. -/
namespace Go.Proofs.Ytnefnnoleeeedaa
open Ps
theorem tok_text (s : ByteArray) (k : Nat) : (tokK s k).text.data.toList = (tl s (atK s k)).take (firstL (tl s (atK s k))).2.1 := by
  unfold tokK tl
  dsimp only
  rw [ByteArray.data_extract, Array.toList_extract, List.extract_eq_take_drop]
  congr 1
  omega
/-- Each token is read somewhere, rightly. -/
theorem lexF_mem (s : ByteArray) : ∀ (f k n : Nat) (l : List Tok), lexF s f k n = .good l → ∀ t ∈ l, ∃ k, t = tokK s k ∧ errK s k = 0
  | 0, k, n, l, h => by simp [lexF] at h
  | f + 1, k, n, l, h => by
    by_cases he : errK s k = 0
    · by_cases hn : n = 4000
      · subst hn; rw [lexF_many he] at h; cases h
      · by_cases h0 : (tokK s k).kind = 0
        · rw [lexF_end he hn h0] at h
          cases h
          exact fun t ht => ⟨k, by simpa using ht, he⟩
        · rw [lexF_next he hn h0] at h
          cases hr : lexF s f (endK s k) (n + 1) with
          | bad e a => rw [hr] at h; cases h
          | good B =>
            rw [hr] at h
            cases h
            have h2 := lexF_mem s f _ _ B hr
            intro t ht
            rcases List.mem_cons.1 ht with rfl | ht
            · exact ⟨k, rfl, he⟩
            · exact h2 t ht
    · rw [lexF_err he] at h; cases h
theorem lits_parts : ∀ x ∈ lits, x ≠ [] ∧ digN (x.getD 0 0).toNat = false ∧ (x.getD 0 0).toNat ≠ 34 ∧ (letN (x.getD 0 0).toNat = true → x ∈ keys) := by decide
theorem tok_lits {s : ByteArray} {k : Nat} (he : errK s k = 0) (h0 : (tokK s k).kind ≠ 0) (h2 : (tokK s k).kind ≠ 2) (h5 : (tokK s k).kind ≠ 5) : ∀ x ∈ lits, (tokK s k).text.data.toList ≠ x := by
  intro x hx e
  obtain ⟨p1, p2, p3, p4⟩ := lits_parts x hx
  rw [tok_text] at e
  have hk : (tokK s k).kind = (firstL (tl s (atK s k))).1 := rfl
  rw [hk] at h0 h2 h5
  unfold errK at he
  generalize tl s (atK s k) = l at *
  have hl : l ≠ [] := by
    rintro rfl
    exact h0 rfl
  have hd : x.getD 0 0 = l.getD 0 0 := by
    cases l with
    | nil => exact absurd rfl hl
    | cons b t =>
      cases hn : (firstL (b :: t)).2.1 with
      | zero => rw [hn, List.take_zero] at e; exact absurd e.symm p1
      | succ n => rw [hn, List.take_succ_cons] at e; rw [← e]; rfl
  rw [hd] at p2 p3 p4
  unfold firstL at h0 h2 h5 he e
  rw [if_neg hl] at h0 h2 h5 he e
  by_cases hlet : letN (l.getD 0 0).toNat = true
  · rw [if_pos hlet] at h0 h2 h5 he e
    unfold wordL at h0 h2 h5 he e
    by_cases hkey : keyL (l.take (wLen l)) = true
    · rw [if_pos hkey] at h2; exact h2 rfl
    · rw [if_neg hkey] at h0 e he
      split at e
      · rename_i hw; rw [if_pos hw] at h0; exact h0 rfl
      · have hm := p4 hlet
        dsimp only at e
        rw [← e] at hm
        exact hkey (by unfold keyL; simpa using hm)
  · rw [if_neg hlet] at h0 h2 h5 he e
    by_cases hdig : digN (l.getD 0 0).toNat = true
    · rw [hdig] at p2; cases p2
    · rw [if_neg hdig] at h0 h2 h5 he e
      by_cases hq : (l.getD 0 0).toNat = 34
      · exact p3 hq
      · rw [if_neg hq] at h0 h5
        unfold signL at h0 h5
        split at h5
        · exact h5 rfl
        · rename_i hp
          rw [if_neg hp] at h0
          split at h5
          · exact h5 rfl
          · rename_i hi
            rw [if_neg hi] at h0
            exact h0 rfl
/-- The tokens of a text are such as a reader wants. -/
theorem lexR_wf {s : ByteArray} {l : List Tok} (h : lexR s = .good l) (hle : l.length ≤ 4000) : Wf2 l := by
  have hg := (lexR_good h).1
  obtain ⟨_, hpos, hi⟩ := hg
  have hm : ∀ t ∈ l, ∃ k, t = tokK s k ∧ errK s k = 0 := by
    unfold lexR at h
    split at h
    · cases h
    · split at h
      · cases h
      · exact lexF_mem s _ _ _ _ h
  refine ⟨⟨hpos, fun i hl hk => ?_, hle⟩, fun i hl hn hk => ?_, fun i hl h2 h5 hn => ?_⟩
  · have := (hi i hl).2.1
    by_cases e : i + 1 = l.length
    · exact absurd (this.2 e) hk
    · omega
  · have := (hi i hl).2.1.1 hk
    omega
  · obtain ⟨k, e, he⟩ := hm l[i] (List.getElem_mem hl)
    rw [e] at h2 h5 ⊢
    refine tok_lits he ?_ h2 h5
    rw [← e]
    intro hk
    have := (hi i hl).2.1.1 hk
    omega
end Go.Proofs.Ytnefnnoleeeedaa

/- Contracts: parse.Of, parse.Type. -/
namespace Go.Proofs.Ytnefnnoleeeedaa
open Go.RowKit
namespace Pg
open Ps
/-- What is read of a text: its tokens and their tree; or an error, and a byte. -/
inductive OfR where
  | ok (l : List Tok) (h : Hd) (k : Fo)
  | bad (e a : Int)
def atOf (l : List Tok) (a : Nat) : Nat := ((l[a]?).map Tok.at_).getD 0
def ofM (s : ByteArray) : OfR := match lexR s with
  | .bad e a => .bad e a
  | .good l => match parseM l with
    | .ok h k => .ok l h k
    | .bad e a => .bad e (atOf l a : Int)
def OfQ (w : World) (o : OfR) (e : Ending) (w' : World) : Prop :=
  Below w.heap.size w w' ∧ match o with
    | .ok l h k => ∃ A c A' c', e = .returned (.tuple #[.slice A l.length c, nvv h A' k.len c', .int .i64 0, .int .i64 0]) ∧ TokAt w' A l ∧ l.length ≤ c ∧ KV w' (fun g => w.heap.size ≤ g) k A' c'
    | .bad er a => e = .returned (.tuple #[.slice none 0 0, nv0, .int .i64 er, .int .i64 a])
theorem whole_bad {l : List Tok} {h : Hd} {k : Fo} {s : Sd} {e a : Nat} (hx : wholeM l (.one h k, s) = .bad e a) : e = 24 ∨ e = 25 := by
  unfold wholeM at hx
  split at hx
  · cases hx; exact .inl rfl
  · split at hx
    · cases hx; exact .inl rfl
    · simp only [Fo.one] at hx
      split at hx
      · cases hx; exact .inr rfl
      · cases hx
theorem parse_bad {l : List Tok} (W : Wf2 l) {e a : Nat} (h : parseM l = .bad e a) : e = 24 ∨ e = 25 := by
  obtain ⟨q, hq, _⟩ := items_some W.toWf
  unfold parseM at h
  rw [hq] at h
  exact whole_bad h

theorem frame6 (w : World) (g : Nat) (u0 u1 u2 u3 u4 u5 : Value) (o : Obj) : Fr g w.heap.size w (((((((w.setCell ⟨g, 0, none⟩ u0).setCell ⟨g, 1, none⟩ u1).setCell ⟨g, 2, none⟩ u2).setCell ⟨g, 3, none⟩ u3).setCell ⟨g, 4, none⟩ u4).setCell ⟨g, 5, none⟩ u5).alloc o).drew :=
  (((((((((Fr.refl g w.heap.size w).put 0 u0).put 1 u1).put 2 u2).put 3 u3).put 4 u4).put 5 u5).alloc (by simp [World.setCell]) o).trans (Fr.of (Below.refl _ _).drew))
theorem row6 {w : World} {g : Nat} {cs : Array Value} (h : RowB w g 25 cs) (hc : cs.size = 6) (u0 u1 u2 u3 u4 u5 : Value) (o : Obj) : ∀ i, (((((((w.setCell ⟨g, 0, none⟩ u0).setCell ⟨g, 1, none⟩ u1).setCell ⟨g, 2, none⟩ u2).setCell ⟨g, 3, none⟩ u3).setCell ⟨g, 4, none⟩ u4).setCell ⟨g, 5, none⟩ u5).alloc o).cell? ⟨g, i, none⟩ = #[u0, u1, u2, u3, u4, u5][i]? := by
  have := ((((((h.put 0 u0).put 1 u1).put 2 u2).put 3 u3).put 4 u4).put 5 u5).alloc o
  rw [six hc] at this
  exact this.cell
theorem TokAt.frame {w w' : World} {A : Option Addr} {l : List Tok} {rb : Nat} (h : TokAt w A l) (hF : Fr rb w.heap.size w w') (hne : ∀ g, A = some ⟨g, 0, none⟩ → g ≠ rb) : TokAt w' A l := fun hn => by
  obtain ⟨g, e, hg, ht⟩ := h hn
  have hr := hne g e
  have := hF.size
  refine ⟨g, e, by omega, fun i hi => ?_⟩
  obtain ⟨c0, c1, c2, c3⟩ := ht i hi
  exact ⟨(hF.cell (p := ⟨g, i * 4, none⟩) hg hr).trans c0, (hF.cell (p := ⟨g, i * 4 + 1, none⟩) hg hr).trans c1, (hF.cell (p := ⟨g, i * 4 + 2, none⟩) hg hr).trans c2, (hF.cell (p := ⟨g, i * 4 + 3, none⟩) hg hr).trans c3⟩

end Pg
end Go.Proofs.Ytnefnnoleeeedaa

