import Derived.Test.YthjflofcgdfekaaGreatDoorGV
namespace Go.Proofs.YthjflofcgdfekaaGreatDoor
namespace Ps
variable {l : List Tok}
def Fo.deep : Fo → Nat
  | .nil => 0
  | .cons _ k r => max (1 + k.deep) r.deep
theorem Fo.deep_one (h : Hd) (k : Fo) : (Fo.one h k).deep = 1 + k.deep := by simp [Fo.one, Fo.deep]
theorem Fo.deep_app : ∀ a b : Fo, (a.app b).deep = max a.deep b.deep
  | .nil, b => by simp [Fo.app, Fo.deep]
  | .cons h k r, b => by rw [Fo.app, Fo.deep, Fo.deep, Fo.deep_app r]; omega
theorem Fo.deep_zero : Fo.zero.deep = 1 := rfl
theorem ty_deep : ∀ (f : Nat) (t : TT) (b : Int) (i : Nat) (r : Fo × Nat × Int), tyM l f t b i = some r → r.1.deep ≤ 2 * f := by
  intro f
  induction f with
  | zero => intro t b i r h; rw [tyM] at h; cases h
  | succ f ih =>
    intro t b i r h
    cases t with
    | kind =>
      rw [tyM] at h
      split at h
      · injection h with h; rw [← h]; simp only [Fo.deep_zero]; omega
      · split at h
        · injection h with h; rw [← h]; simp only [Fo.deep_one, Fo.deep]; omega
        · split at h
          · injection h with h; rw [← h]; simp only [Fo.deep_one, Fo.deep]; omega
          · split at h
            · injection h with h; rw [← h]; simp only [Fo.deep_one, Fo.deep]; omega
            · split at h
              · obtain ⟨x, hx, h⟩ := Option.bind_eq_some_iff.1 h
                have := ih _ _ _ _ hx
                injection h with h; rw [← h]; simp only [Fo.deep_one]; omega
              · obtain ⟨x, hx, h⟩ := Option.bind_eq_some_iff.1 h
                obtain ⟨t, ht, h⟩ := Option.bind_eq_some_iff.1 h
                have := ih _ _ _ _ hx
                have := ih _ _ _ _ ht
                injection h with h; rw [← h]; simp only [Fo.deep_one, Fo.deep_app]; omega
    | recL first =>
      rw [tyM] at h
      split at h
      · obtain ⟨t, ht, h⟩ := Option.bind_eq_some_iff.1 h
        have := ih _ _ _ _ ht
        split at h
        · injection h with h; rw [← h]; simp only [Fo.deep_one]; omega
        · obtain ⟨x, hx, h⟩ := Option.map_eq_some_iff.1 h
          have := ih _ _ _ _ hx
          rw [← h]; simp only [Fo.deep_one, Fo.deep_app]; omega
      · injection h with h; rw [← h]; simp only [Fo.deep]; omega
    | fnL first =>
      rw [tyM] at h
      split at h
      · obtain ⟨t, ht, h⟩ := Option.bind_eq_some_iff.1 h
        have := ih _ _ _ _ ht
        split at h
        · injection h with h; rw [← h]; dsimp only; omega
        · obtain ⟨x, hx, h⟩ := Option.map_eq_some_iff.1 h
          have := ih _ _ _ _ hx
          rw [← h]; simp only [Fo.deep_app]; omega
      · injection h with h; rw [← h]; simp only [Fo.deep]; omega
theorem typed_deep {f : Nat} {b : Int} {i : Nat} {r : Fo × Nat × Int} (h : typedM l f b i = some r) : r.1.deep ≤ 2 * f + 1 := by
  unfold typedM at h
  split at h
  · injection h with h; rw [← h]; simp only [Fo.deep_zero]; omega
  · have := ty_deep _ _ _ _ _ h; omega
theorem par_deep : ∀ (f : Nat) (first : Bool) (b : Int) (i : Nat) (r : Fo × Nat × Int), parL l f first b i = some r → r.1.deep ≤ 2 * f := by
  intro f
  induction f with
  | zero => intro first b i r h; rw [parL] at h; cases h
  | succ f ih =>
    intro first b i r h
    rw [parL] at h
    split at h
    · obtain ⟨t, ht, h⟩ := Option.bind_eq_some_iff.1 h
      have := typed_deep ht
      split at h
      · injection h with h; rw [← h]; simp only [Fo.deep_one]; omega
      · obtain ⟨x, hx, h⟩ := Option.map_eq_some_iff.1 h
        have := ih _ _ _ _ hx
        rw [← h]; simp only [Fo.deep_one, Fo.deep_app]; omega
    · injection h with h; rw [← h]; simp only [Fo.deep]; omega
theorem params_deep {f : Nat} {b : Int} {i : Nat} {r : Fo × Nat × Int} (h : paramsM l f b i = some r) : r.1.deep ≤ 2 * f + 1 := by
  unfold paramsM at h
  obtain ⟨x, hx, h⟩ := Option.bind_eq_some_iff.1 h
  have := par_deep _ _ _ _ _ hx
  injection h with h; rw [← h]; simp only [Fo.deep_one]; omega
def dB : Nat → Nat
  | 0 => 0
  | f + 1 => dB f + f + 2
theorem dB_ge : ∀ f, 2 * f ≤ dB f
  | 0 => Nat.le_refl _
  | f + 1 => by have := dB_ge f; rw [dB]; omega
def dA (f : Nat) : XT → Nat
  | .sumL a | .termL a | .postL a => max a.deep (dB f) + f
  | _ => dB f
theorem ex_deep : ∀ (f : Nat) (t : XT) (b : Int) (i : Nat) (r : Fo × Nat × Int), exM l f t b i = some r → r.1.deep ≤ dA f t := by
  intro f
  induction f with
  | zero => intro t b i r h; rw [exM] at h; cases h
  | succ f ih =>
    intro t b i r h
    have hg := dB_ge f
    cases t with
    | lambda =>
      rw [exM] at h
      obtain ⟨p, h1, h⟩ := Option.bind_eq_some_iff.1 h
      obtain ⟨t, h2, h⟩ := Option.bind_eq_some_iff.1 h
      obtain ⟨k, h3, h⟩ := Option.bind_eq_some_iff.1 h
      have := params_deep h1
      have := typed_deep h2
      have := ih _ _ _ _ h3
      injection h with h; rw [← h]; simp only [Fo.deep_app, dA, dB] at *; omega
    | block =>
      rw [exM] at h
      obtain ⟨x, h1, h⟩ := Option.bind_eq_some_iff.1 h
      have := ih _ _ _ _ h1
      injection h with h; rw [← h]; simp only [Fo.deep_one, dA, dB] at *; omega
    | stmts =>
      rw [exM] at h
      split at h
      · obtain ⟨x, h1, h⟩ := Option.bind_eq_some_iff.1 h
        obtain ⟨y, h2, h⟩ := Option.map_eq_some_iff.1 h
        have := ih _ _ _ _ h1
        have := ih _ _ _ _ h2
        rw [← h]; simp only [Fo.deep_app, dA, dB] at *; omega
      · injection h with h; rw [← h]; simp only [Fo.deep, dA, dB]; omega
    | stmt =>
      rw [exM] at h
      split at h
      · obtain ⟨c, h1, h⟩ := Option.bind_eq_some_iff.1 h
        obtain ⟨k, h2, h⟩ := Option.bind_eq_some_iff.1 h
        have := ih _ _ _ _ h1
        have := ih _ _ _ _ h2
        split at h
        · obtain ⟨o, h3, h⟩ := Option.bind_eq_some_iff.1 h
          have := ih _ _ _ _ h3
          injection h with h; rw [← h]; simp only [Fo.deep_one, Fo.deep_app, dA, dB] at *; omega
        · injection h with h; rw [← h]; simp only [Fo.deep_one, Fo.deep_app, Fo.deep_zero, dA, dB] at *; omega
      · split at h
        · obtain ⟨c, h1, h⟩ := Option.bind_eq_some_iff.1 h
          obtain ⟨k, h2, h⟩ := Option.bind_eq_some_iff.1 h
          have := ih _ _ _ _ h1
          have := ih _ _ _ _ h2
          injection h with h; rw [← h]; simp only [Fo.deep_one, Fo.deep_app, dA, dB] at *; omega
        · split at h
          · obtain ⟨t, h1, h⟩ := Option.bind_eq_some_iff.1 h
            obtain ⟨v, h2, h⟩ := Option.bind_eq_some_iff.1 h
            have := typed_deep h1
            have := ih _ _ _ _ h2
            injection h with h; rw [← h]; simp only [Fo.deep_one, Fo.deep_app, dA, dB] at *; omega
          · obtain ⟨v, h2, h⟩ := Option.bind_eq_some_iff.1 h
            have := ih _ _ _ _ h2
            injection h with h; rw [← h]; simp only [Fo.deep_one, dA, dB] at *; omega
    | expr =>
      rw [exM] at h
      obtain ⟨a, h1, h⟩ := Option.bind_eq_some_iff.1 h
      have := ih _ _ _ _ h1
      split at h
      · injection h with h; rw [← h]; simp only [dA, dB] at *; omega
      · obtain ⟨c, h2, h⟩ := Option.bind_eq_some_iff.1 h
        have := ih _ _ _ _ h2
        injection h with h; rw [← h]; simp only [Fo.deep_one, Fo.deep_app, dA, dB] at *; omega
    | sum =>
      rw [exM] at h
      obtain ⟨a, h1, h⟩ := Option.bind_eq_some_iff.1 h
      have := ih _ _ _ _ h1
      have := ih _ _ _ _ h
      simp only [dA, dB] at *; omega
    | term =>
      rw [exM] at h
      obtain ⟨a, h1, h⟩ := Option.bind_eq_some_iff.1 h
      have := ih _ _ _ _ h1
      have := ih _ _ _ _ h
      simp only [dA, dB] at *; omega
    | post =>
      rw [exM] at h
      obtain ⟨a, h1, h⟩ := Option.bind_eq_some_iff.1 h
      have := ih _ _ _ _ h1
      have := ih _ _ _ _ h
      simp only [dA, dB] at *; omega
    | sumL a =>
      rw [exM] at h
      split at h
      · obtain ⟨c, h1, h⟩ := Option.bind_eq_some_iff.1 h
        have := ih _ _ _ _ h1
        have := ih _ _ _ _ h
        simp only [Fo.deep_one, Fo.deep_app, dA, dB] at *; omega
      · injection h with h; rw [← h]; simp only [dA, dB]; omega
    | termL a =>
      rw [exM] at h
      split at h
      · obtain ⟨c, h1, h⟩ := Option.bind_eq_some_iff.1 h
        have := ih _ _ _ _ h1
        have := ih _ _ _ _ h
        simp only [Fo.deep_one, Fo.deep_app, dA, dB] at *; omega
      · injection h with h; rw [← h]; simp only [dA, dB]; omega
    | postL a =>
      rw [exM] at h
      split at h
      · split at h
        · have := ih _ _ _ _ h
          simp only [Fo.deep_one, dA, dB] at *; omega
        · obtain ⟨k, h1, h⟩ := Option.bind_eq_some_iff.1 h
          have := ih _ _ _ _ h1
          have := ih _ _ _ _ h
          simp only [Fo.deep_one, Fo.deep_app, dA, dB] at *; omega
      · injection h with h; rw [← h]; simp only [dA, dB]; omega
    | args first =>
      rw [exM] at h
      split at h
      · obtain ⟨t, h1, h⟩ := Option.bind_eq_some_iff.1 h
        have := ih _ _ _ _ h1
        split at h
        · injection h with h; rw [← h]; simp only [dA, dB] at *; omega
        · obtain ⟨y, h2, h⟩ := Option.map_eq_some_iff.1 h
          have := ih _ _ _ _ h2
          rw [← h]; simp only [Fo.deep_app, dA, dB] at *; omega
      · injection h with h; rw [← h]; simp only [Fo.deep, dA, dB]; omega
    | atom =>
      rw [exM] at h
      split at h
      · injection h with h; rw [← h]; simp only [Fo.deep_zero, dA, dB]; omega
      · split at h
        · injection h with h; rw [← h]; simp only [Fo.deep_one, Fo.deep, dA, dB]; omega
        · split at h
          · injection h with h; rw [← h]; simp only [Fo.deep_one, Fo.deep, dA, dB]; omega
          · split at h
            · injection h with h; rw [← h]; simp only [Fo.deep_one, Fo.deep, dA, dB]; omega
            · split at h
              · injection h with h; rw [← h]; simp only [Fo.deep_one, Fo.deep, dA, dB]; omega
              · split at h
                · obtain ⟨x, h1, h⟩ := Option.bind_eq_some_iff.1 h
                  have := ih _ _ _ _ h1
                  injection h with h; rw [← h]; simp only [Fo.deep_one, dA, dB] at *; omega
                · split at h
                  · obtain ⟨x, h1, h⟩ := Option.bind_eq_some_iff.1 h
                    have := ih _ _ _ _ h1
                    injection h with h; rw [← h]; simp only [Fo.deep_one, dA, dB] at *; omega
                  · obtain ⟨x, h1, h⟩ := Option.bind_eq_some_iff.1 h
                    have := ih _ _ _ _ h1
                    injection h with h; rw [← h]; simp only [Fo.deep_one, dA, dB] at *; omega
    | entries first =>
      rw [exM] at h
      split at h
      · obtain ⟨t, h1, h⟩ := Option.bind_eq_some_iff.1 h
        have := ih _ _ _ _ h1
        split at h
        · injection h with h; rw [← h]; simp only [Fo.deep_one, dA, dB] at *; omega
        · obtain ⟨y, h2, h⟩ := Option.map_eq_some_iff.1 h
          have := ih _ _ _ _ h2
          rw [← h]; simp only [Fo.deep_one, Fo.deep_app, dA, dB] at *; omega
      · injection h with h; rw [← h]; simp only [Fo.deep, dA, dB]; omega
theorem dB_mono {f g : Nat} (h : f ≤ g) : dB f ≤ dB g := by
  induction g with
  | zero => rw [Nat.le_zero.1 h]; exact Nat.le_refl _
  | succ g ih =>
    by_cases e : f = g + 1
    · rw [e]; exact Nat.le_refl _
    · have := ih (by omega); rw [dB]; omega
theorem items_deep : ∀ (f g : Nat) (b : Int) (i : Nat) (r : Fo × Nat × Int), f ≤ g → itemsM l f b i = some r → r.1.deep ≤ dB g + 2 := by
  intro f
  induction f with
  | zero => intro g b i r _ h; rw [itemsM] at h; cases h
  | succ f ih =>
    intro g b i r hf h
    rw [itemsM] at h
    split at h
    · split at h
      · obtain ⟨x, h1, h⟩ := Option.map_eq_some_iff.1 h
        have := ih g _ _ _ (by omega) h1
        have hu : (useM l b i).1.deep = 2 := by unfold useM; simp only [Fo.deep_one, Fo.deep]
        rw [← h]; simp only [Fo.deep_app, hu]; omega
      · obtain ⟨t, h1, h⟩ := Option.bind_eq_some_iff.1 h
        obtain ⟨x, h2, h⟩ := Option.map_eq_some_iff.1 h
        have := ih g _ _ _ (by omega) h2
        have hd : t.1.deep ≤ dB f + 1 := by
          unfold defM at h1
          obtain ⟨k, h3, h1⟩ := Option.bind_eq_some_iff.1 h1
          have := ex_deep _ _ _ _ _ h3
          injection h1 with h1; rw [← h1]; simp only [Fo.deep_one, dA] at *; omega
        have := dB_mono (f := f) (g := g) (by omega)
        rw [← h]; simp only [Fo.deep_app]; omega
    · injection h with h; rw [← h]; simp only [Fo.deep]; omega
theorem dB_le : ∀ f, f ≤ 1000000 → dB f ≤ f * 1000003
  | 0, _ => Nat.le_refl _
  | f + 1, h => by have := dB_le f (by omega); rw [dB, Nat.add_mul]; omega
theorem items_deep' {r : Fo × Nat × Int} (h : itemsM l fuel (-1) 0 = some r) : r.1.deep ≤ 900000000000 := by
  have h1 := items_deep fuel fuel (-1) 0 r (Nat.le_refl _) h
  have h2 := dB_le fuel (by unfold fuel; omega)
  unfold fuel at *
  omega
end Ps
end Go.Proofs.YthjflofcgdfekaaGreatDoor
namespace Go.Proofs.YthjflofcgdfekaaGreatDoor
namespace Ps
variable {l : List Tok}
def Fo.wide : Fo → Nat
  | .nil => 0
  | .cons _ k r => max (max k.len k.wide) r.wide
theorem Fo.wide_one (h : Hd) (k : Fo) : (Fo.one h k).wide = max k.len k.wide := by simp [Fo.one, Fo.wide]
theorem Fo.wide_app : ∀ a b : Fo, (a.app b).wide = max a.wide b.wide
  | .nil, b => by simp [Fo.app, Fo.wide]
  | .cons h k r, b => by rw [Fo.app, Fo.wide, Fo.wide, Fo.wide_app r]; omega
theorem Fo.wide_zero : Fo.zero.wide = 0 := rfl
theorem Fo.len_zero : Fo.zero.len = 1 := rfl
theorem Fo.len_one (h : Hd) (k : Fo) : (Fo.one h k).len = 1 := rfl
def lT (f : Nat) : TT → Nat
  | .kind => 1
  | _ => f
def wL (f : Nat) : XT → Nat
  | .lambda => 3
  | .stmts | .args _ | .entries _ => f
  | .sumL a | .termL a | .postL a => max a.len 1
  | _ => 1
def wW (f : Nat) : XT → Nat
  | .sumL a | .termL a | .postL a => max (max a.wide (a.len + f)) (f + 3)
  | _ => f + 3
theorem ty_wide : ∀ (f : Nat) (t : TT) (b : Int) (i : Nat) (r : Fo × Nat × Int), tyM l f t b i = some r → (r.1.len ≤ lT f t ∧ r.1.wide ≤ f + 3) := by
  intro f
  induction f with
  | zero => intro t b i r h; rw [tyM] at h; cases h
  | succ f ih =>
    intro t b i r h
    cases t with
    | kind =>
      rw [tyM] at h
      split at h
      · injection h with h; rw [← h]; simp only [Fo.wide_zero, Fo.len_zero, lT] at *; omega
      · split at h
        · injection h with h; rw [← h]; simp only [Fo.wide_one, Fo.len_one, Fo.wide, Fo.len, lT] at *; omega
        · split at h
          · injection h with h; rw [← h]; simp only [Fo.wide_one, Fo.len_one, Fo.wide, Fo.len, lT] at *; omega
          · split at h
            · injection h with h; rw [← h]; simp only [Fo.wide_one, Fo.len_one, Fo.wide, Fo.len, lT] at *; omega
            · split at h
              · obtain ⟨x, hx, h⟩ := Option.bind_eq_some_iff.1 h
                have := ih _ _ _ _ hx
                injection h with h; rw [← h]; simp only [Fo.wide_one, Fo.len_one, lT] at *; omega
              · obtain ⟨x, hx, h⟩ := Option.bind_eq_some_iff.1 h
                obtain ⟨t, ht, h⟩ := Option.bind_eq_some_iff.1 h
                have := ih _ _ _ _ hx
                have := ih _ _ _ _ ht
                injection h with h; rw [← h]; simp only [Fo.wide_one, Fo.wide_app, Fo.len_app, Fo.len_one, lT] at *; omega
    | recL first =>
      rw [tyM] at h
      split at h
      · obtain ⟨t, ht, h⟩ := Option.bind_eq_some_iff.1 h
        have := ih _ _ _ _ ht
        split at h
        · injection h with h; rw [← h]; simp only [Fo.wide_one, Fo.len_one, lT] at *; omega
        · obtain ⟨x, hx, h⟩ := Option.map_eq_some_iff.1 h
          have := ih _ _ _ _ hx
          rw [← h]; simp only [Fo.wide_one, Fo.wide_app, Fo.len_app, Fo.len_one, lT] at *; omega
      · injection h with h; rw [← h]; simp only [Fo.wide, Fo.len, lT] at *; omega
    | fnL first =>
      rw [tyM] at h
      split at h
      · obtain ⟨t, ht, h⟩ := Option.bind_eq_some_iff.1 h
        have := ih _ _ _ _ ht
        split at h
        · injection h with h; rw [← h]; simp only [lT] at *; omega
        · obtain ⟨x, hx, h⟩ := Option.map_eq_some_iff.1 h
          have := ih _ _ _ _ hx
          rw [← h]; simp only [Fo.wide_app, Fo.len_app, lT] at *; omega
      · injection h with h; rw [← h]; simp only [Fo.wide, Fo.len, lT] at *; omega
theorem typed_wide {f : Nat} {b : Int} {i : Nat} {r : Fo × Nat × Int} (h : typedM l f b i = some r) : r.1.len ≤ 1 ∧ r.1.wide ≤ f + 3 := by
  unfold typedM at h
  split at h
  · injection h with h; rw [← h]; simp only [Fo.wide_zero, Fo.len_zero] at *; omega
  · have := ty_wide _ _ _ _ _ h; simp only [lT] at this; omega
theorem par_wide : ∀ (f : Nat) (first : Bool) (b : Int) (i : Nat) (r : Fo × Nat × Int), parL l f first b i = some r → (r.1.len ≤ f ∧ r.1.wide ≤ f + 3) := by
  intro f
  induction f with
  | zero => intro first b i r h; rw [parL] at h; cases h
  | succ f ih =>
    intro first b i r h
    rw [parL] at h
    split at h
    · obtain ⟨t, ht, h⟩ := Option.bind_eq_some_iff.1 h
      have := typed_wide ht
      split at h
      · injection h with h; rw [← h]; simp only [Fo.wide_one, Fo.len_one] at *; omega
      · obtain ⟨x, hx, h⟩ := Option.map_eq_some_iff.1 h
        have := ih _ _ _ _ hx
        rw [← h]; simp only [Fo.wide_one, Fo.wide_app, Fo.len_app, Fo.len_one] at *; omega
    · injection h with h; rw [← h]; simp only [Fo.wide, Fo.len] at *; omega
theorem params_wide {f : Nat} {b : Int} {i : Nat} {r : Fo × Nat × Int} (h : paramsM l f b i = some r) : r.1.len ≤ 1 ∧ r.1.wide ≤ f + 3 := by
  unfold paramsM at h
  obtain ⟨x, hx, h⟩ := Option.bind_eq_some_iff.1 h
  have := par_wide _ _ _ _ _ hx
  injection h with h; rw [← h]; simp only [Fo.wide_one, Fo.len_one] at *; omega
theorem ex_wide : ∀ (f : Nat) (t : XT) (b : Int) (i : Nat) (r : Fo × Nat × Int), exM l f t b i = some r → (r.1.len ≤ wL f t ∧ r.1.wide ≤ wW f t) := by
  intro f
  induction f with
  | zero => intro t b i r h; rw [exM] at h; cases h
  | succ f ih =>
    intro t b i r h
    cases t with
    | lambda =>
      rw [exM] at h
      obtain ⟨p, h1, h⟩ := Option.bind_eq_some_iff.1 h
      obtain ⟨t, h2, h⟩ := Option.bind_eq_some_iff.1 h
      obtain ⟨k, h3, h⟩ := Option.bind_eq_some_iff.1 h
      have := params_wide h1
      have := typed_wide h2
      have := ih _ _ _ _ h3
      injection h with h; rw [← h]; simp only [Fo.wide_app, Fo.len_app, wL, wW] at *; omega
    | block =>
      rw [exM] at h
      obtain ⟨x, h1, h⟩ := Option.bind_eq_some_iff.1 h
      have := ih _ _ _ _ h1
      injection h with h; rw [← h]; simp only [Fo.wide_one, Fo.len_one, wL, wW] at *; omega
    | stmts =>
      rw [exM] at h
      split at h
      · obtain ⟨x, h1, h⟩ := Option.bind_eq_some_iff.1 h
        obtain ⟨y, h2, h⟩ := Option.map_eq_some_iff.1 h
        have := ih _ _ _ _ h1
        have := ih _ _ _ _ h2
        rw [← h]; simp only [Fo.wide_app, Fo.len_app, wL, wW] at *; omega
      · injection h with h; rw [← h]; simp only [Fo.wide, Fo.len, wL, wW] at *; omega
    | stmt =>
      rw [exM] at h
      split at h
      · obtain ⟨c, h1, h⟩ := Option.bind_eq_some_iff.1 h
        obtain ⟨k, h2, h⟩ := Option.bind_eq_some_iff.1 h
        have := ih _ _ _ _ h1
        have := ih _ _ _ _ h2
        split at h
        · obtain ⟨o, h3, h⟩ := Option.bind_eq_some_iff.1 h
          have := ih _ _ _ _ h3
          injection h with h; rw [← h]; simp only [Fo.wide_one, Fo.wide_app, Fo.len_app, Fo.len_one, wL, wW] at *; omega
        · injection h with h; rw [← h]; simp only [Fo.wide_one, Fo.wide_app, Fo.wide_zero, Fo.len_app, Fo.len_one, Fo.len_zero, wL, wW] at *; omega
      · split at h
        · obtain ⟨c, h1, h⟩ := Option.bind_eq_some_iff.1 h
          obtain ⟨k, h2, h⟩ := Option.bind_eq_some_iff.1 h
          have := ih _ _ _ _ h1
          have := ih _ _ _ _ h2
          injection h with h; rw [← h]; simp only [Fo.wide_one, Fo.wide_app, Fo.len_app, Fo.len_one, wL, wW] at *; omega
        · split at h
          · obtain ⟨t, h1, h⟩ := Option.bind_eq_some_iff.1 h
            obtain ⟨v, h2, h⟩ := Option.bind_eq_some_iff.1 h
            have := typed_wide h1
            have := ih _ _ _ _ h2
            injection h with h; rw [← h]; simp only [Fo.wide_one, Fo.wide_app, Fo.len_app, Fo.len_one, wL, wW] at *; omega
          · obtain ⟨v, h2, h⟩ := Option.bind_eq_some_iff.1 h
            have := ih _ _ _ _ h2
            injection h with h; rw [← h]; simp only [Fo.wide_one, Fo.len_one, wL, wW] at *; omega
    | expr =>
      rw [exM] at h
      obtain ⟨a, h1, h⟩ := Option.bind_eq_some_iff.1 h
      have := ih _ _ _ _ h1
      split at h
      · injection h with h; rw [← h]; simp only [wL, wW] at *; omega
      · obtain ⟨c, h2, h⟩ := Option.bind_eq_some_iff.1 h
        have := ih _ _ _ _ h2
        injection h with h; rw [← h]; simp only [Fo.wide_one, Fo.wide_app, Fo.len_app, Fo.len_one, wL, wW] at *; omega
    | sum =>
      rw [exM] at h
      obtain ⟨a, h1, h⟩ := Option.bind_eq_some_iff.1 h
      have := ih _ _ _ _ h1
      have := ih _ _ _ _ h
      simp only [wL, wW] at *; omega
    | term =>
      rw [exM] at h
      obtain ⟨a, h1, h⟩ := Option.bind_eq_some_iff.1 h
      have := ih _ _ _ _ h1
      have := ih _ _ _ _ h
      simp only [wL, wW] at *; omega
    | post =>
      rw [exM] at h
      obtain ⟨a, h1, h⟩ := Option.bind_eq_some_iff.1 h
      have := ih _ _ _ _ h1
      have := ih _ _ _ _ h
      simp only [wL, wW] at *; omega
    | sumL a =>
      rw [exM] at h
      split at h
      · obtain ⟨c, h1, h⟩ := Option.bind_eq_some_iff.1 h
        have := ih _ _ _ _ h1
        have := ih _ _ _ _ h
        simp only [Fo.wide_one, Fo.wide_app, Fo.len_app, Fo.len_one, wL, wW] at *; omega
      · injection h with h; rw [← h]; simp only [wL, wW] at *; omega
    | termL a =>
      rw [exM] at h
      split at h
      · obtain ⟨c, h1, h⟩ := Option.bind_eq_some_iff.1 h
        have := ih _ _ _ _ h1
        have := ih _ _ _ _ h
        simp only [Fo.wide_one, Fo.wide_app, Fo.len_app, Fo.len_one, wL, wW] at *; omega
      · injection h with h; rw [← h]; simp only [wL, wW] at *; omega
    | postL a =>
      rw [exM] at h
      split at h
      · split at h
        · have := ih _ _ _ _ h
          simp only [Fo.wide_one, Fo.len_one, wL, wW] at *; omega
        · obtain ⟨k, h1, h⟩ := Option.bind_eq_some_iff.1 h
          have := ih _ _ _ _ h1
          have := ih _ _ _ _ h
          simp only [Fo.wide_one, Fo.wide_app, Fo.len_app, Fo.len_one, wL, wW] at *; omega
      · injection h with h; rw [← h]; simp only [wL, wW] at *; omega
    | args first =>
      rw [exM] at h
      split at h
      · obtain ⟨t, h1, h⟩ := Option.bind_eq_some_iff.1 h
        have := ih _ _ _ _ h1
        split at h
        · injection h with h; rw [← h]; simp only [wL, wW] at *; omega
        · obtain ⟨y, h2, h⟩ := Option.map_eq_some_iff.1 h
          have := ih _ _ _ _ h2
          rw [← h]; simp only [Fo.wide_app, Fo.len_app, wL, wW] at *; omega
      · injection h with h; rw [← h]; simp only [Fo.wide, Fo.len, wL, wW] at *; omega
    | atom =>
      rw [exM] at h
      split at h
      · injection h with h; rw [← h]; simp only [Fo.wide_zero, Fo.len_zero, wL, wW] at *; omega
      · split at h
        · injection h with h; rw [← h]; simp only [Fo.wide_one, Fo.len_one, Fo.wide, Fo.len, wL, wW] at *; omega
        · split at h
          · injection h with h; rw [← h]; simp only [Fo.wide_one, Fo.len_one, Fo.wide, Fo.len, wL, wW] at *; omega
          · split at h
            · injection h with h; rw [← h]; simp only [Fo.wide_one, Fo.len_one, Fo.wide, Fo.len, wL, wW] at *; omega
            · split at h
              · injection h with h; rw [← h]; simp only [Fo.wide_one, Fo.len_one, Fo.wide, Fo.len, wL, wW] at *; omega
              · split at h
                · obtain ⟨x, h1, h⟩ := Option.bind_eq_some_iff.1 h
                  have := ih _ _ _ _ h1
                  injection h with h; rw [← h]; simp only [Fo.wide_one, Fo.len_one, wL, wW] at *; omega
                · split at h
                  · obtain ⟨x, h1, h⟩ := Option.bind_eq_some_iff.1 h
                    have := ih _ _ _ _ h1
                    injection h with h; rw [← h]; simp only [Fo.wide_one, Fo.len_one, wL, wW] at *; omega
                  · obtain ⟨x, h1, h⟩ := Option.bind_eq_some_iff.1 h
                    have := ih _ _ _ _ h1
                    injection h with h; rw [← h]; simp only [Fo.wide_one, Fo.len_one, wL, wW] at *; omega
    | entries first =>
      rw [exM] at h
      split at h
      · obtain ⟨t, h1, h⟩ := Option.bind_eq_some_iff.1 h
        have := ih _ _ _ _ h1
        split at h
        · injection h with h; rw [← h]; simp only [Fo.wide_one, Fo.len_one, wL, wW] at *; omega
        · obtain ⟨y, h2, h⟩ := Option.map_eq_some_iff.1 h
          have := ih _ _ _ _ h2
          rw [← h]; simp only [Fo.wide_one, Fo.wide_app, Fo.len_app, Fo.len_one, wL, wW] at *; omega
      · injection h with h; rw [← h]; simp only [Fo.wide, Fo.len, wL, wW] at *; omega
theorem items_wide : ∀ (f g : Nat) (b : Int) (i : Nat) (r : Fo × Nat × Int), f ≤ g → itemsM l f b i = some r → (r.1.len ≤ f ∧ r.1.wide ≤ g + 3) := by
  intro f
  induction f with
  | zero => intro g b i r _ h; rw [itemsM] at h; cases h
  | succ f ih =>
    intro g b i r hf h
    rw [itemsM] at h
    split at h
    · split at h
      · obtain ⟨x, h1, h⟩ := Option.map_eq_some_iff.1 h
        have := ih g _ _ _ (by omega) h1
        have hu : (useM l b i).1.len = 1 ∧ (useM l b i).1.wide = 1 := by unfold useM; simp only [Fo.wide_one, Fo.wide, Fo.len_one, Fo.len]; exact ⟨trivial, rfl⟩
        rw [← h]; simp only [Fo.wide_app, Fo.len_app, hu.1, hu.2]; omega
      · obtain ⟨t, h1, h⟩ := Option.bind_eq_some_iff.1 h
        obtain ⟨x, h2, h⟩ := Option.map_eq_some_iff.1 h
        have := ih g _ _ _ (by omega) h2
        have hd : t.1.len = 1 ∧ t.1.wide ≤ f + 3 := by
          unfold defM at h1
          obtain ⟨k, h3, h1⟩ := Option.bind_eq_some_iff.1 h1
          have := ex_wide _ _ _ _ _ h3
          simp only [wL, wW] at this
          injection h1 with h1; rw [← h1]; refine ⟨rfl, ?_⟩; simp only [Fo.wide_one]; omega
        rw [← h]; simp only [Fo.wide_app, Fo.len_app]; omega
    · injection h with h; rw [← h]; simp only [Fo.wide, Fo.len]; omega
theorem items_wide' {r : Fo × Nat × Int} (h : itemsM l fuel (-1) 0 = some r) : r.1.len ≤ 1000000 ∧ r.1.wide ≤ 1000000 := by
  have h1 := items_wide fuel fuel (-1) 0 r (Nat.le_refl _) h
  unfold fuel at *
  omega
end Ps
end Go.Proofs.YthjflofcgdfekaaGreatDoor
