/- The mathematics of what two lists have in common. -/
namespace Go.Proofs.YthbmnnnlkgbieaaGreatDoor
namespace Dl

section
variable {α : Type} [DecidableEq α]

/-- How many elements two lists can keep. -/
def lcs : List α → List α → Nat
  | [], _ => 0
  | _ :: _, [] => 0
  | x :: a, y :: b => if x = y then lcs a b + 1 else max (lcs a (y :: b)) (lcs (x :: a) b)
termination_by a b => a.length + b.length

theorem lcs_nil_left (b : List α) : lcs [] b = 0 := by unfold lcs; rfl
theorem lcs_nil_right (a : List α) : lcs a [] = 0 := by cases a <;> (unfold lcs; rfl)
theorem lcs_cons (x y : α) (a b : List α) :
    lcs (x :: a) (y :: b) = if x = y then lcs a b + 1 else max (lcs a (y :: b)) (lcs (x :: a) b) := by
  rw [lcs]

omit [DecidableEq α] in
theorem sub_cons {z x : α} {c a : List α} (h : (z :: c).Sublist (x :: a)) :
    (z :: c).Sublist a ∨ (z = x ∧ c.Sublist a) := by
  cases h with
  | cons _ h => exact .inl h
  | cons_cons _ h => exact .inr ⟨rfl, h⟩

theorem lcs_le : ∀ (n : Nat) (a b c : List α), a.length + b.length ≤ n →
    c.Sublist a → c.Sublist b → c.length ≤ lcs a b := by
  intro n
  induction n with
  | zero =>
    intro a b c h ha hb
    have : a = [] := List.length_eq_zero_iff.mp (by omega)
    subst this
    have := List.sublist_nil.mp ha
    subst this; simp
  | succ n ih =>
    intro a b c h ha hb
    cases c with
    | nil => simp
    | cons z c =>
      cases a with
      | nil => cases ha
      | cons x a =>
        cases b with
        | nil => cases hb
        | cons y b =>
          simp only [List.length_cons] at h
          rw [lcs_cons]
          have ha' := sub_cons ha
          have hb' := sub_cons hb
          have hta : c.Sublist a := by
            rcases ha' with h1 | ⟨_, h1⟩
            · exact (List.sublist_cons_self z c).trans h1
            · exact h1
          have htb : c.Sublist b := by
            rcases hb' with h1 | ⟨_, h1⟩
            · exact (List.sublist_cons_self z c).trans h1
            · exact h1
          split
          · have := ih a b c (by omega) hta htb
            simp only [List.length_cons]; omega
          · rename_i hne
            rcases ha' with h1 | ⟨e1, _⟩
            · have := ih a (y :: b) (z :: c) (by simp only [List.length_cons]; omega) h1 hb
              omega
            · rcases hb' with h2 | ⟨e2, _⟩
              · have := ih (x :: a) b (z :: c) (by simp only [List.length_cons]; omega) ha h2
                omega
              · exact absurd (e1.symm.trans e2) hne

theorem lcs_is : ∀ (n : Nat) (a b : List α), a.length + b.length ≤ n →
    ∃ c : List α, c.Sublist a ∧ c.Sublist b ∧ c.length = lcs a b := by
  intro n
  induction n with
  | zero =>
    intro a b h
    have : a = [] := List.length_eq_zero_iff.mp (by omega)
    subst this
    exact ⟨[], List.Sublist.refl _, List.nil_sublist _, by rw [lcs_nil_left]; rfl⟩
  | succ n ih =>
    intro a b h
    cases a with
    | nil => exact ⟨[], List.Sublist.refl _, List.nil_sublist _, by rw [lcs_nil_left]; rfl⟩
    | cons x a =>
      cases b with
      | nil => exact ⟨[], List.nil_sublist _, List.Sublist.refl _, by rw [lcs_nil_right]; rfl⟩
      | cons y b =>
        simp only [List.length_cons] at h
        rw [lcs_cons]
        split
        · rename_i he
          subst he
          obtain ⟨c, h1, h2, h3⟩ := ih a b (by omega)
          exact ⟨x :: c, h1.cons_cons x, h2.cons_cons x, by simp [h3]⟩
        · obtain ⟨c, h1, h2, h3⟩ := ih a (y :: b) (by simp only [List.length_cons]; omega)
          obtain ⟨d, g1, g2, g3⟩ := ih (x :: a) b (by simp only [List.length_cons]; omega)
          by_cases hm : lcs (x :: a) b ≤ lcs a (y :: b)
          · exact ⟨c, h1.cons x, h2, by omega⟩
          · exact ⟨d, g1, g2.cons y, by omega⟩

theorem le_lcs {a b c : List α} (ha : c.Sublist a) (hb : c.Sublist b) : c.length ≤ lcs a b :=
  lcs_le _ a b c (Nat.le_refl _) ha hb

theorem ex_lcs (a b : List α) : ∃ c : List α, c.Sublist a ∧ c.Sublist b ∧ c.length = lcs a b :=
  lcs_is _ a b (Nat.le_refl _)

theorem lcs_comm (a b : List α) : lcs a b = lcs b a := by
  obtain ⟨c, h1, h2, h3⟩ := ex_lcs a b
  obtain ⟨d, g1, g2, g3⟩ := ex_lcs b a
  have := le_lcs h2 h1
  have := le_lcs g2 g1
  omega

theorem lcs_mono {a b a' b' : List α} (ha : a.Sublist a') (hb : b.Sublist b') : lcs a b ≤ lcs a' b' := by
  obtain ⟨c, h1, h2, h3⟩ := ex_lcs a b
  have := le_lcs (h1.trans ha) (h2.trans hb)
  omega

theorem lcs_le_left (a b : List α) : lcs a b ≤ a.length := by
  obtain ⟨c, h1, _, h3⟩ := ex_lcs a b
  have := h1.length_le
  omega

theorem lcs_le_right (a b : List α) : lcs a b ≤ b.length := by
  rw [lcs_comm]; exact lcs_le_left b a

theorem lcs_self (a : List α) : lcs a a = a.length :=
  Nat.le_antisymm (lcs_le_left a a) (le_lcs (List.Sublist.refl a) (List.Sublist.refl a))

theorem lcs_reverse (a b : List α) : lcs a.reverse b.reverse = lcs a b := by
  obtain ⟨c, h1, h2, h3⟩ := ex_lcs a b
  obtain ⟨d, g1, g2, g3⟩ := ex_lcs a.reverse b.reverse
  have e1 := le_lcs h1.reverse h2.reverse
  have e2 := le_lcs (a := a) (b := b) (c := d.reverse) (by simpa using g1.reverse) (by simpa using g2.reverse)
  simp only [List.length_reverse] at e1 e2
  omega

theorem lcs_append_left (p a b : List α) : lcs (p ++ a) (p ++ b) = p.length + lcs a b := by
  induction p with
  | nil => simp
  | cons x p ih =>
    simp only [List.cons_append, lcs_cons, if_pos, ih, List.length_cons]
    omega

theorem lcs_append_right (a b q : List α) : lcs (a ++ q) (b ++ q) = lcs a b + q.length := by
  rw [← lcs_reverse, List.reverse_append, List.reverse_append, lcs_append_left, lcs_reverse,
    List.length_reverse]
  omega

/-- Where the last ones differ, as where the first ones do. -/
theorem lcs_snoc (x y : α) (a b : List α) :
    lcs (a ++ [x]) (b ++ [y]) = if x = y then lcs a b + 1 else max (lcs a (b ++ [y])) (lcs (a ++ [x]) b) := by
  rw [← lcs_reverse (a ++ [x]), List.reverse_append, List.reverse_append]
  simp only [List.reverse_cons, List.reverse_nil, List.nil_append, List.cons_append, lcs_cons]
  rw [lcs_reverse, ← lcs_reverse a (b ++ [y]), ← lcs_reverse (a ++ [x]) b]
  simp only [List.reverse_append, List.reverse_cons, List.reverse_nil, List.nil_append, List.cons_append]

theorem lcs_map {β : Type} [DecidableEq β] (f : α → β) (a b : List α)
    (hf : ∀ x ∈ a, ∀ y ∈ b, f x = f y → x = y) : lcs (a.map f) (b.map f) = lcs a b := by
  suffices h : ∀ (n : Nat) (a b : List α), a.length + b.length ≤ n →
      (∀ x ∈ a, ∀ y ∈ b, f x = f y → x = y) → lcs (a.map f) (b.map f) = lcs a b from
    h _ a b (Nat.le_refl _) hf
  intro n
  induction n with
  | zero =>
    intro a b h _
    have : a = [] := List.length_eq_zero_iff.mp (by omega)
    subst this
    rw [List.map_nil, lcs_nil_left, lcs_nil_left]
  | succ n ih =>
    intro a b h hf
    cases a with
    | nil => rw [List.map_nil, lcs_nil_left, lcs_nil_left]
    | cons x a =>
      cases b with
      | nil => rw [List.map_nil, lcs_nil_right, lcs_nil_right]
      | cons y b =>
        simp only [List.length_cons] at h
        rw [List.map_cons, List.map_cons, lcs_cons, lcs_cons]
        have h1 := ih a b (by omega) (fun p hp q hq => hf p (List.mem_cons_of_mem _ hp) q (List.mem_cons_of_mem _ hq))
        have h2 := ih a (y :: b) (by simp only [List.length_cons]; omega)
          (fun p hp q hq => hf p (List.mem_cons_of_mem _ hp) q hq)
        have h3 := ih (x :: a) b (by simp only [List.length_cons]; omega)
          (fun p hp q hq => hf p hp q (List.mem_cons_of_mem _ hq))
        rw [List.map_cons] at h2 h3
        rw [h1, h2, h3]
        by_cases he : x = y
        · subst he; simp
        · have : ¬ f x = f y := fun e => he (hf x (List.mem_cons_self) y (List.mem_cons_self) e)
          rw [if_neg he, if_neg this]

/-- A place in both lists has the same element. -/
def At (a b : List α) (i j : Nat) : Prop := ∃ x, a[i]? = some x ∧ b[j]? = some x

/-- From a place in both lists on. -/
def L (a b : List α) (i j : Nat) : Nat := lcs (a.drop i) (b.drop j)

theorem L_at {a b : List α} {i j : Nat} (h : At a b i j) : L a b i j = L a b (i + 1) (j + 1) + 1 := by
  obtain ⟨x, h1, h2⟩ := h
  obtain ⟨hi, e1⟩ := List.getElem?_eq_some_iff.mp h1
  obtain ⟨hj, e2⟩ := List.getElem?_eq_some_iff.mp h2
  unfold L
  rw [List.drop_eq_getElem_cons hi, List.drop_eq_getElem_cons hj, lcs_cons, e1, e2, if_pos rfl]

theorem L_not {a b : List α} {i j : Nat} (hi : i < a.length) (hj : j < b.length) (h : ¬ At a b i j) :
    L a b i j = max (L a b (i + 1) j) (L a b i (j + 1)) := by
  have hne : ¬ a[i] = b[j] := fun e =>
    h ⟨a[i], List.getElem?_eq_getElem hi, by rw [e]; exact List.getElem?_eq_getElem hj⟩
  unfold L
  rw [List.drop_eq_getElem_cons hi, List.drop_eq_getElem_cons hj, lcs_cons, if_neg hne]

theorem L_left {a b : List α} {i j : Nat} (hi : a.length ≤ i) : L a b i j = 0 := by
  unfold L; rw [List.drop_eq_nil_of_le hi, lcs_nil_left]

theorem L_right {a b : List α} {i j : Nat} (hj : b.length ≤ j) : L a b i j = 0 := by
  unfold L; rw [List.drop_eq_nil_of_le hj, lcs_nil_right]

theorem L_mono {a b : List α} {i j i' j' : Nat} (hi : i ≤ i') (hj : j ≤ j') : L a b i' j' ≤ L a b i j := by
  apply lcs_mono
  · have : a.drop i' = (a.drop i).drop (i' - i) := by rw [List.drop_drop]; congr 1; omega
    rw [this]; exact List.drop_sublist _ _
  · have : b.drop j' = (b.drop j).drop (j' - j) := by rw [List.drop_drop]; congr 1; omega
    rw [this]; exact List.drop_sublist _ _

theorem L_old (a b : List α) (i j : Nat) : L a b (i + 1) j ≤ L a b i j := L_mono (by omega) (Nat.le_refl _)
theorem L_new (a b : List α) (i j : Nat) : L a b i (j + 1) ≤ L a b i j := L_mono (Nat.le_refl _) (by omega)

theorem L_le_left (a b : List α) (i j : Nat) : L a b i j ≤ a.length - i := by
  unfold L; have := lcs_le_left (a.drop i) (b.drop j); simpa using this
theorem L_le_right (a b : List α) (i j : Nat) : L a b i j ≤ b.length - j := by
  unfold L; have := lcs_le_right (a.drop i) (b.drop j); simpa using this

/-- One is gone at most, where one is skipped. -/
theorem L_max {a b : List α} {i j : Nat} (h : At a b i j) :
    max (L a b (i + 1) j) (L a b i (j + 1)) ≤ L a b (i + 1) (j + 1) + 1 := by
  have := L_old a b i j
  have := L_new a b i j
  have := L_at h
  omega

end

/-- A gap: from a place in both lists up to another one. -/
structure Gap where
  fo : Nat
  fn : Nat
  eo : Nat
  en : Nat
deriving DecidableEq

/-- A way through two lists, from a place in both on: its gaps. -/
inductive Good {α : Type} [DecidableEq α] (a b : List α) : Nat → Nat → List Gap → Prop
  | done : Good a b a.length b.length []
  | keep (i j G) : At a b i j → Good a b (i + 1) (j + 1) G → Good a b i j G
  | gap (i j i' j' G) : i ≤ i' → j ≤ j' → i' ≤ a.length → j' ≤ b.length →
      (i < i' ∨ j < j') → L a b i j = L a b i' j' → (i' = a.length ∧ j' = b.length ∨ At a b i' j') →
      Good a b i' j' G → Good a b i j (⟨i, j, i', j'⟩ :: G)

/-- The same, with nothing said of how many are kept. -/
inductive Way {α : Type} [DecidableEq α] (a b : List α) : Nat → Nat → List Gap → Prop
  | done : Way a b a.length b.length []
  | keep (i j G) : At a b i j → Way a b (i + 1) (j + 1) G → Way a b i j G
  | gap (i j i' j' G) : i ≤ i' → j ≤ j' → i' ≤ a.length → j' ≤ b.length →
      (i < i' ∨ j < j') → (i' = a.length ∧ j' = b.length ∨ At a b i' j') →
      Way a b i' j' G → Way a b i j (⟨i, j, i', j'⟩ :: G)

theorem Good.way {α : Type} [DecidableEq α] {a b : List α} {i j : Nat} {G : List Gap} (h : Good a b i j G) :
    Way a b i j G := by
  induction h with
  | done => exact .done
  | keep i j G h1 _ ih => exact .keep i j G h1 ih
  | gap i j i' j' G h1 h2 h3 h4 h5 _ h6 _ ih => exact .gap i j i' j' G h1 h2 h3 h4 h5 h6 ih

theorem Way.le {α : Type} [DecidableEq α] {a b : List α} {i j : Nat} {G : List Gap} (h : Way a b i j G) :
    i ≤ a.length ∧ j ≤ b.length := by
  induction h with
  | done => exact ⟨Nat.le_refl _, Nat.le_refl _⟩
  | keep i j G h1 _ ih => omega
  | gap i j i' j' G h1 h2 h3 h4 _ _ _ _ => omega

/-- How many of the first list's the gaps have. -/
def gone : List Gap → Nat
  | [] => 0
  | g :: G => (g.eo - g.fo) + gone G

theorem Good.kept {α : Type} [DecidableEq α] {a b : List α} {i j : Nat} {G : List Gap} (h : Good a b i j G) :
    gone G + L a b i j = a.length - i := by
  induction h with
  | done => simp [gone, L_left (Nat.le_refl _)]
  | keep i j G h1 h2 ih => rw [L_at h1]; have := h2.way.le; omega
  | gap i j i' j' G h1 h2 h3 h4 _ h5 _ h6 ih =>
    simp only [gone]; omega

/-- A list and itself: no gap. -/
theorem Good.self {α : Type} [DecidableEq α] {a : List α} {i j : Nat} {G : List Gap} (h : Good a a i j G)
    (e : i = j) : G = [] := by
  induction h with
  | done => rfl
  | keep i j G h1 h2 ih => exact ih (by omega)
  | gap i j i' j' G h1 h2 h3 h4 h7 h5 _ h6 ih =>
    subst e
    have e1 : L a a i i = a.length - i := by unfold L; rw [lcs_self]; simp
    have e2 := L_le_left a a i' j'
    have e3 := L_le_right a a i' j'
    omega

end Dl
end Go.Proofs.YthbmnnnlkgbieaaGreatDoor
/- The table of the cells, by definition, and what it tells of two lists. -/
namespace Go.Proofs.YthbmnnnlkgbieaaGreatDoor
namespace Dl

/-- How good a way is: how many are kept, how many gaps. -/
structure Sc where
  k : Int
  g : Int
deriving DecidableEq

def below (s t : Sc) : Bool := decide (s.k < t.k) || (decide (s.k = t.k) && decide (t.g < s.g))
def best (s t : Sc) : Sc := if below s t then t else s

def up (w : Int → Int) (s : Sc) : Sc := ⟨s.k, w (s.g + 1)⟩
def one (w : Int → Int) (s : Sc) : Sc := ⟨w (s.k + 1), s.g⟩

theorem best_k (s t : Sc) : (best s t).k = max s.k t.k := by
  unfold best below
  by_cases h : s.k < t.k
  · simp [h]; omega
  · by_cases h2 : s.k = t.k
    · by_cases h3 : t.g < s.g
      · simp [h2, h3]
      · simp [h2, h3]
    · simp [h, h2]; omega

theorem best_or (s t : Sc) : best s t = s ∨ best s t = t := by
  unfold best; split
  · exact .inr rfl
  · exact .inl rfl

/-- The cell at a place: behind a kept unit, and within a gap. -/
def C (w : Int → Int) (same : Nat → Nat → Bool) (n m : Nat) (i j : Nat) : Sc × Sc :=
  if i < n then
    if j < m then
      let sk := best (C w same n m (i + 1) j).2 (C w same n m i (j + 1)).2
      if same i j then
        let kp := one w (C w same n m (i + 1) (j + 1)).1
        (kp, best kp sk)
      else (up w sk, sk)
    else
      let sk := (C w same n m (i + 1) j).2
      (up w sk, sk)
  else if j < m then
    let sk := (C w same n m i (j + 1)).2
    (up w sk, sk)
  else (⟨0, 0⟩, ⟨0, 0⟩)
termination_by (n - i) + (m - j)

section
variable (w : Int → Int) (same : Nat → Nat → Bool) (n m : Nat)

def skip (i j : Nat) : Sc :=
  if i = n then (C w same n m i (j + 1)).2
  else if j = m then (C w same n m (i + 1) j).2
  else best (C w same n m (i + 1) j).2 (C w same n m i (j + 1)).2

def isS (i j : Nat) : Bool := decide (i < n) && decide (j < m) && same i j

def keep (i j : Nat) : Sc := one w (C w same n m (i + 1) (j + 1)).1

theorem C_end : C w same n m n m = (⟨0, 0⟩, ⟨0, 0⟩) := by
  rw [C]; simp

theorem C_eq {i j : Nat} (hi : i ≤ n) (hj : j ≤ m) (h : ¬ (i = n ∧ j = m)) :
    C w same n m i j = if isS same n m i j then (keep w same n m i j, best (keep w same n m i j) (skip w same n m i j))
      else (up w (skip w same n m i j), skip w same n m i j) := by
  rw [C]
  unfold isS skip keep
  by_cases h1 : i < n
  · by_cases h2 : j < m
    · have e1 : ¬ i = n := by omega
      have e2 : ¬ j = m := by omega
      simp only [h1, h2, e1, e2, if_true, if_false, decide_true, Bool.true_and]
    · have e1 : ¬ i = n := by omega
      have e2 : j = m := by omega
      simp only [h1, e1, e2, if_true, if_false, decide_true, decide_false, Bool.false_and,
        Bool.and_false, Nat.lt_irrefl, Bool.false_eq_true]
  · have e1 : i = n := by omega
    have h2 : j < m := by omega
    simp only [e1, h2, if_true, if_false, decide_false, Bool.false_and, Nat.lt_irrefl,
      Bool.false_eq_true]

/-- Does a step into a gap take one of the first list's? -/
def toOld (i j : Nat) : Bool :=
  decide (i < n) && decide ((C w same n m (i + 1) j).2 = skip w same n m i j)

/-- Does a gap end here? -/
def stops (i j : Nat) : Bool :=
  (decide (i = n) && decide (j = m)) ||
    (isS same n m i j && decide ((C w same n m i j).2 = keep w same n m i j))

theorem toOld_or {i j : Nat} (hi : i ≤ n) (hj : j ≤ m) (h : ¬ (i = n ∧ j = m))
    (ho : toOld w same n m i j = false) :
    j < m ∧ (C w same n m i (j + 1)).2 = skip w same n m i j := by
  unfold toOld at ho
  by_cases h1 : i < n
  · have e1 : ¬ i = n := by omega
    simp only [h1, decide_true, Bool.true_and, decide_eq_false_iff_not] at ho
    by_cases h2 : j < m
    · refine ⟨h2, ?_⟩
      have e2 : ¬ j = m := by omega
      unfold skip at ho ⊢
      simp only [e1, e2, if_false] at ho ⊢
      rcases best_or (C w same n m (i + 1) j).2 (C w same n m i (j + 1)).2 with h3 | h3
      · exact absurd h3.symm ho
      · exact h3.symm
    · have e2 : j = m := by omega
      unfold skip at ho
      simp only [e1, e2, if_false, if_true, not_true_eq_false] at ho
  · have e1 : i = n := by omega
    refine ⟨by omega, ?_⟩
    unfold skip
    rw [if_pos e1]

end

section
variable {α : Type} [DecidableEq α] (w : Int → Int) (same : Nat → Nat → Bool) (a b : List α)

omit [DecidableEq α] in
theorem isS_at (hs : ∀ i j, i < a.length → j < b.length → (same i j = true ↔ At a b i j)) (i j : Nat) :
    isS same a.length b.length i j = true ↔ At a b i j := by
  unfold isS
  constructor
  · intro h
    simp only [Bool.and_eq_true, decide_eq_true_eq] at h
    exact (hs i j h.1.1 h.1.2).mp h.2
  · intro h
    have h' := h
    obtain ⟨x, h1, h2⟩ := h'
    have hi := (List.getElem?_eq_some_iff.mp h1).1
    have hj := (List.getElem?_eq_some_iff.mp h2).1
    simp only [Bool.and_eq_true, decide_eq_true_eq]
    exact ⟨⟨hi, hj⟩, (hs i j hi hj).mpr h⟩

theorem C_L (hs : ∀ i j, i < a.length → j < b.length → (same i j = true ↔ At a b i j))
    (hw : ∀ x : Int, 0 ≤ x → x ≤ (a.length : Int) → w x = x) :
    ∀ (k i j : Nat), (a.length - i) + (b.length - j) ≤ k → i ≤ a.length → j ≤ b.length →
      (C w same a.length b.length i j).1.k = (L a b i j : Int) ∧
      (C w same a.length b.length i j).2.k = (L a b i j : Int) := by
  intro k
  induction k with
  | zero =>
    intro i j h hi hj
    have e1 : i = a.length := by omega
    have e2 : j = b.length := by omega
    subst e1; subst e2
    rw [C_end, L_left (Nat.le_refl _)]
    exact ⟨rfl, rfl⟩
  | succ k ih =>
    intro i j h hi hj
    by_cases he : i = a.length ∧ j = b.length
    · obtain ⟨e1, e2⟩ := he
      subst e1; subst e2
      rw [C_end, L_left (Nat.le_refl _)]
      exact ⟨rfl, rfl⟩
    · rw [C_eq w same _ _ hi hj he]
      by_cases hS : isS same a.length b.length i j = true
      · have hA := (isS_at same a b hs i j).mp hS
        have hA' := hA
        obtain ⟨x, h1, h2⟩ := hA'
        have hi' := (List.getElem?_eq_some_iff.mp h1).1
        have hj' := (List.getElem?_eq_some_iff.mp h2).1
        rw [if_pos hS]
        have hk := ih (i + 1) (j + 1) (by omega) (by omega) (by omega)
        have hLa := L_at hA
        have hle := L_le_left a b i j
        have hkeep : (keep w same a.length b.length i j).k = (L a b i j : Int) := by
          unfold keep one
          simp only [hk.1]
          rw [hw _ (by omega) (by omega)]
          omega
        refine ⟨hkeep, ?_⟩
        rw [best_k, hkeep]
        have h3 := ih (i + 1) j (by omega) (by omega) (by omega)
        have h4 := ih i (j + 1) (by omega) (by omega) (by omega)
        have : (skip w same a.length b.length i j).k ≤ (L a b i j : Int) := by
          unfold skip
          rw [if_neg (by omega), if_neg (by omega), best_k, h3.2, h4.2]
          have := L_old a b i j
          have := L_new a b i j
          omega
        omega
      · rw [if_neg hS]
        have hA : ¬ At a b i j := fun h => hS ((isS_at same a b hs i j).mpr h)
        have hskip : (skip w same a.length b.length i j).k = (L a b i j : Int) := by
          unfold skip
          by_cases e1 : i = a.length
          · rw [if_pos e1]
            have h4 := ih i (j + 1) (by omega) (by omega) (by omega)
            rw [h4.2, L_left (by omega), L_left (by omega)]
          · rw [if_neg e1]
            by_cases e2 : j = b.length
            · rw [if_pos e2]
              have h3 := ih (i + 1) j (by omega) (by omega) (by omega)
              rw [h3.2, L_right (by omega), L_right (by omega)]
            · rw [if_neg e2, best_k]
              have h3 := ih (i + 1) j (by omega) (by omega) (by omega)
              have h4 := ih i (j + 1) (by omega) (by omega) (by omega)
              rw [h3.2, h4.2, L_not (by omega) (by omega) hA]
              omega
        exact ⟨hskip, hskip⟩

/-- A step into a gap, or on within one, leaves as many to be kept. -/
theorem step_L (hs : ∀ i j, i < a.length → j < b.length → (same i j = true ↔ At a b i j))
    (hw : ∀ x : Int, 0 ≤ x → x ≤ (a.length : Int) → w x = x)
    {i j : Nat} (hi : i ≤ a.length) (hj : j ≤ b.length) (he : ¬ (i = a.length ∧ j = b.length))
    (hn : isS same a.length b.length i j = false ∨ stops w same a.length b.length i j = false) :
    (skip w same a.length b.length i j).k = (L a b i j : Int) := by
  have hC := (C_L w same a b hs hw _ i j (Nat.le_refl _) hi hj).2
  rw [C_eq w same _ _ hi hj he] at hC
  by_cases hS : isS same a.length b.length i j = true
  · rw [if_pos hS] at hC
    rcases hn with hn | hn
    · rw [hn] at hS; exact absurd hS (by simp)
    · unfold stops at hn
      rw [hS, C_eq w same _ _ hi hj he, if_pos hS] at hn
      simp only [Bool.true_and, Bool.or_eq_false_iff, decide_eq_false_iff_not] at hn
      rcases best_or (keep w same a.length b.length i j) (skip w same a.length b.length i j) with h3 | h3
      · exact absurd h3 hn.2
      · rw [← hC]; show _ = (best _ _).k; rw [h3]
  · rw [if_neg hS] at hC
    exact hC

theorem step_old (hs : ∀ i j, i < a.length → j < b.length → (same i j = true ↔ At a b i j))
    (hw : ∀ x : Int, 0 ≤ x → x ≤ (a.length : Int) → w x = x)
    {i j : Nat} (hi : i ≤ a.length) (hj : j ≤ b.length) (he : ¬ (i = a.length ∧ j = b.length))
    (hn : isS same a.length b.length i j = false ∨ stops w same a.length b.length i j = false)
    (ho : toOld w same a.length b.length i j = true) :
    i < a.length ∧ L a b (i + 1) j = L a b i j := by
  have h := step_L w same a b hs hw hi hj he hn
  unfold toOld at ho
  simp only [Bool.and_eq_true, decide_eq_true_eq] at ho
  refine ⟨ho.1, ?_⟩
  have hC := (C_L w same a b hs hw _ (i + 1) j (Nat.le_refl _) (by omega) hj).2
  rw [ho.2] at hC
  omega

theorem step_new (hs : ∀ i j, i < a.length → j < b.length → (same i j = true ↔ At a b i j))
    (hw : ∀ x : Int, 0 ≤ x → x ≤ (a.length : Int) → w x = x)
    {i j : Nat} (hi : i ≤ a.length) (hj : j ≤ b.length) (he : ¬ (i = a.length ∧ j = b.length))
    (hn : isS same a.length b.length i j = false ∨ stops w same a.length b.length i j = false)
    (ho : toOld w same a.length b.length i j = false) :
    j < b.length ∧ L a b i (j + 1) = L a b i j := by
  have h := step_L w same a b hs hw hi hj he hn
  obtain ⟨hj', ho'⟩ := toOld_or w same _ _ hi hj he ho
  refine ⟨hj', ?_⟩
  have hC := (C_L w same a b hs hw _ i (j + 1) (Nat.le_refl _) hi (by omega)).2
  rw [ho'] at hC
  omega

end
end Dl
end Go.Proofs.YthbmnnnlkgbieaaGreatDoor
/- Ways through parts of lists, and through lists of other names. -/
namespace Go.Proofs.YthbmnnnlkgbieaaGreatDoor
namespace Dl
/-- Gaps with kept units between them. -/
def Sep : List Gap → Prop
  | g :: h :: r => (g.eo < h.fo ∧ g.en < h.fn) ∧ Sep (h :: r)
  | _ => True
theorem Sep.tail {g : Gap} {G : List Gap} (h : Sep (g :: G)) : Sep G := by
  cases G with
  | nil => trivial
  | cons x r => exact h.2
section
variable {α : Type} [DecidableEq α]

omit [DecidableEq α] in
theorem At_map {β : Type} (f : α → β) {a b : List α} (hf : ∀ x ∈ a, ∀ y ∈ b, f x = f y → x = y) (i j : Nat) :
    At (a.map f) (b.map f) i j ↔ At a b i j := by
  unfold At
  simp only [List.getElem?_map]
  constructor
  · rintro ⟨x, h1, h2⟩
    obtain ⟨y, g1, g2⟩ := Option.map_eq_some_iff.1 h1
    obtain ⟨z, g3, g4⟩ := Option.map_eq_some_iff.1 h2
    have := hf y (List.mem_of_getElem? g1) z (List.mem_of_getElem? g3) (g2.trans g4.symm)
    subst this
    exact ⟨y, g1, g3⟩
  · rintro ⟨x, h1, h2⟩
    exact ⟨f x, by rw [h1]; rfl, by rw [h2]; rfl⟩

theorem L_map {β : Type} [DecidableEq β] (f : α → β) {a b : List α} (hf : ∀ x ∈ a, ∀ y ∈ b, f x = f y → x = y) (i j : Nat) :
    L (a.map f) (b.map f) i j = L a b i j := by
  unfold L
  rw [← List.map_drop, ← List.map_drop]
  exact lcs_map f _ _ (fun x hx y hy => hf x (List.mem_of_mem_drop hx) y (List.mem_of_mem_drop hy))

theorem Good.of_map {β : Type} [DecidableEq β] (f : α → β) {a b : List α} (hf : ∀ x ∈ a, ∀ y ∈ b, f x = f y → x = y) {i j : Nat} {G : List Gap}
    (h : Good (a.map f) (b.map f) i j G) : Good a b i j G := by
  generalize hA : a.map f = A at h
  generalize hB : b.map f = B at h
  induction h with
  | done =>
    subst hA hB
    rw [List.length_map, List.length_map]
    exact .done
  | keep i j G h1 _ ih =>
    subst hA hB
    exact .keep i j G ((At_map f hf i j).1 h1) ih
  | gap i j i' j' G h1 h2 h3 h4 h5 h6 h7 _ ih =>
    subst hA hB
    rw [List.length_map] at h3 h4
    rw [L_map f hf, L_map f hf] at h6
    rw [List.length_map, List.length_map] at h7
    refine .gap i j i' j' G h1 h2 h3 h4 h5 h6 ?_ ih
    rcases h7 with h | h
    · exact .inl h
    · exact .inr ((At_map f hf _ _).1 h)

/-- The rest is the same: no gap. -/
theorem Good.rest {a b : List α} : ∀ (n i j : Nat), a.length - i = n → i ≤ a.length → j ≤ b.length → a.length - i = b.length - j →
    (∀ k, k < a.length - i → At a b (i + k) (j + k)) → Good a b i j [] := by
  intro n
  induction n with
  | zero =>
    intro i j h hi hj hs _
    have e1 : i = a.length := by omega
    have e2 : j = b.length := by omega
    subst e1 e2
    exact .done
  | succ n ih =>
    intro i j h hi hj hs hk
    refine .keep i j [] (by simpa using hk 0 (by omega)) (ih (i + 1) (j + 1) (by omega) (by omega) (by omega) (by omega) (fun k h2 => ?_))
    have := hk (k + 1) (by omega)
    rwa [show i + 1 + k = i + (k + 1) by omega, show j + 1 + k = j + (k + 1) by omega]

/-- What stands ahead is the same. -/
theorem Good.fore {a b : List α} {G : List Gap} : ∀ (n : Nat), (∀ k, k < n → At a b k k) → Good a b n n G → Good a b 0 0 G := by
  intro n
  induction n with
  | zero => intro _ h; exact h
  | succ n ih =>
    intro hk h
    exact ih (fun k h2 => hk k (by omega)) (.keep n n G (hk n (by omega)) h)

def Gap.up (n : Nat) (g : Gap) : Gap := ⟨n + g.fo, n + g.fn, n + g.eo, n + g.en⟩
theorem Sep.up (n : Nat) : ∀ {G : List Gap}, Sep G → Sep (G.map (Gap.up n))
  | [], _ => trivial
  | [_], _ => trivial
  | _ :: _ :: _, h => ⟨⟨Nat.add_lt_add_left h.1.1 n, Nat.add_lt_add_left h.1.2 n⟩, Sep.up n h.2⟩

section
variable {a b : List α} {p x y : Nat}

omit [DecidableEq α] in
theorem drop_part {l : List α} {p x i : Nat} (hp : p ≤ x) (_hx : x ≤ l.length) (hi : i ≤ x - p) : l.drop (p + i) = ((l.drop p).take (x - p)).drop i ++ l.drop x := by
  have h1 : ((l.drop p).take (x - p)).drop i = (l.drop (p + i)).take (x - p - i) := by
    rw [List.drop_take, List.drop_drop]
  rw [h1]
  have h2 : l.drop x = (l.drop (p + i)).drop (x - p - i) := by
    rw [List.drop_drop]; congr 1; omega
  rw [h2, List.take_append_drop]

/-- A way through what is left, as a way through all. -/
theorem Good.part (hpx : p ≤ x) (hpy : p ≤ y) (hxa : x ≤ a.length) (hyb : y ≤ b.length) (hs : a.length - x = b.length - y)
    (hh : ∀ k, k < a.length - x → At a b (x + k) (y + k)) {i j : Nat} {G : List Gap}
    (h : Good ((a.drop p).take (x - p)) ((b.drop p).take (y - p)) i j G) : Good a b (p + i) (p + j) (G.map (Gap.up p)) := by
  have la : ((a.drop p).take (x - p)).length = x - p := by simp; omega
  have lb : ((b.drop p).take (y - p)).length = y - p := by simp; omega
  have hq : a.drop x = b.drop y := by
    apply List.ext_getElem?
    intro k
    rw [List.getElem?_drop, List.getElem?_drop]
    rcases Nat.lt_or_ge k (a.length - x) with hk | hk
    · obtain ⟨z, h1, h2⟩ := hh k hk
      rw [h1, h2]
    · rw [List.getElem?_eq_none (by omega), List.getElem?_eq_none (by omega)]
  have hL : ∀ i j, i ≤ x - p → j ≤ y - p → L a b (p + i) (p + j) = L ((a.drop p).take (x - p)) ((b.drop p).take (y - p)) i j + (a.length - x) := fun i j hi hj => by
    unfold L
    rw [drop_part hpx hxa hi, drop_part hpy hyb hj, ← hq, lcs_append_right]
    simp
  have hA : ∀ i j, At ((a.drop p).take (x - p)) ((b.drop p).take (y - p)) i j → At a b (p + i) (p + j) := fun i j ⟨z, h1, h2⟩ => by
    have g1 := (List.getElem?_eq_some_iff.1 h1).1
    have g2 := (List.getElem?_eq_some_iff.1 h2).1
    rw [List.getElem?_take_of_lt (by omega), List.getElem?_drop] at h1
    rw [List.getElem?_take_of_lt (by omega), List.getElem?_drop] at h2
    exact ⟨z, h1, h2⟩
  induction h with
  | done =>
    rw [la, lb]
    rw [show p + (x - p) = x by omega, show p + (y - p) = y by omega]
    exact Good.rest _ x y rfl hxa hyb hs hh
  | keep i j G h1 _ ih => exact .keep _ _ _ (hA i j h1) ih
  | gap i j i' j' G h1 h2 h3 h4 h5 h6 h7 _ ih =>
    rw [la] at h3
    rw [lb] at h4
    refine .gap (p + i) (p + j) (p + i') (p + j') _ (by omega) (by omega) (by omega) (by omega) (by omega) ?_ ?_ ih
    · rw [hL i j (by omega) (by omega), hL i' j' (by omega) (by omega), h6]
    · rcases h7 with ⟨e1, e2⟩ | h
      · rw [la] at e1
        rw [lb] at e2
        rcases Nat.eq_or_lt_of_le hxa with e | e
        · exact .inl ⟨by omega, by omega⟩
        · right
          have := hh 0 (by omega)
          rwa [show x + 0 = p + i' by omega, show y + 0 = p + j' by omega] at this
      · exact .inr (hA i' j' h)

/-- If of one list nothing is left, one gap is the best. -/
theorem Good.one (hpx : p ≤ x) (hpy : p ≤ y) (hxa : x ≤ a.length) (hyb : y ≤ b.length) (hs : a.length - x = b.length - y)
    (hf : ∀ k, k < p → At a b k k) (hh : ∀ k, k < a.length - x → At a b (x + k) (y + k)) (h0 : x = p ∨ y = p) (hne : ¬ (x = p ∧ y = p)) :
    Good a b 0 0 [⟨p, p, x, y⟩] := by
  have la : ((a.drop p).take (x - p)).length = x - p := by simp; omega
  have lb : ((b.drop p).take (y - p)).length = y - p := by simp; omega
  have h : Good ((a.drop p).take (x - p)) ((b.drop p).take (y - p)) 0 0 [⟨0, 0, x - p, y - p⟩] := by
    have hd : Good ((a.drop p).take (x - p)) ((b.drop p).take (y - p)) (x - p) (y - p) [] := by
      have := Good.done (a := (a.drop p).take (x - p)) (b := (b.drop p).take (y - p))
      rwa [la, lb] at this
    refine .gap 0 0 (x - p) (y - p) [] (by omega) (by omega) (by omega) (by omega) (by omega) ?_ (.inl ⟨la.symm, lb.symm⟩) hd
    rw [L_left (i := x - p) (by omega)]
    have := L_le_left ((a.drop p).take (x - p)) ((b.drop p).take (y - p)) 0 0
    have := L_le_right ((a.drop p).take (x - p)) ((b.drop p).take (y - p)) 0 0
    omega
  have := Good.part hpx hpy hxa hyb hs hh h
  simp only [List.map_cons, List.map_nil, Gap.up, Nat.add_zero] at this
  rw [show p + (x - p) = x by omega, show p + (y - p) = y by omega] at this
  exact Good.fore p hf this

/-- One gap with all that isn't the same at the beginning and at the end. -/
theorem Way.one (hpx : p ≤ x) (hpy : p ≤ y) (hxa : x ≤ a.length) (hyb : y ≤ b.length) (hs : a.length - x = b.length - y)
    (hf : ∀ k, k < p → At a b k k) (hh : ∀ k, k < a.length - x → At a b (x + k) (y + k)) (hne : ¬ (x = p ∧ y = p)) :
    Way a b 0 0 [⟨p, p, x, y⟩] := by
  have h1 : Way a b x y [] := (Good.rest _ x y rfl hxa hyb hs hh).way
  have h2 : Way a b p p [⟨p, p, x, y⟩] := by
    refine .gap p p x y [] hpx hpy hxa hyb (by omega) ?_ h1
    rcases Nat.eq_or_lt_of_le hxa with e | e
    · exact .inl ⟨e, by omega⟩
    · exact .inr (hh 0 (by omega))
  have : ∀ n, n ≤ p → Way a b (p - n) (p - n) [⟨p, p, x, y⟩] := by
    intro n
    induction n with
    | zero => intro _; exact h2
    | succ n ih =>
      intro hn
      refine .keep _ _ _ (hf (p - (n + 1)) (by omega)) ?_
      have := ih (by omega)
      rwa [show p - (n + 1) + 1 = p - n by omega]
  have := this p (Nat.le_refl _)
  rwa [Nat.sub_self] at this
end
end
end Dl
end Go.Proofs.YthbmnnnlkgbieaaGreatDoor
/- A way's gaps stand in order; one gap in the place of all. -/
namespace Go.Proofs.YthbmnnnlkgbieaaGreatDoor
namespace Dl
section
variable {α : Type} [DecidableEq α] {a b : List α}

theorem Way.out {i j : Nat} {G : List Gap} (h : Way a b i j G) :
    ∀ g ∈ G, i ≤ g.fo ∧ j ≤ g.fn ∧ g.fo ≤ g.eo ∧ g.fn ≤ g.en ∧ g.eo ≤ a.length ∧ g.en ≤ b.length := by
  induction h with
  | done => simp
  | keep i j G _ _ ih =>
    intro g hg
    have := ih g hg
    omega
  | gap i j i' j' G h1 h2 h3 h4 _ _ _ ih =>
    intro g hg
    rcases List.mem_cons.1 hg with rfl | hg
    · exact ⟨Nat.le_refl _, Nat.le_refl _, h1, h2, h3, h4⟩
    · have := ih g hg
      omega

/-- Where the last gap ends. -/
theorem Way.end_ {i j : Nat} {G : List Gap} (h : Way a b i j G) (L : Gap) (hL : G.getLast? = some L) :
    i ≤ L.eo ∧ j ≤ L.en ∧ (i < L.eo ∨ j < L.en) ∧ L.eo ≤ a.length ∧ L.en ≤ b.length ∧ (L.eo = a.length ∧ L.en = b.length ∨ At a b L.eo L.en) ∧ Way a b L.eo L.en [] := by
  induction h with
  | done => simp at hL
  | keep i j G _ _ ih =>
    have := ih hL
    refine ⟨by omega, by omega, by omega, this.2.2.2⟩
  | gap i j i' j' G h1 h2 h3 h4 h5 h6 hw ih =>
    cases G with
    | nil =>
      simp at hL
      subst hL
      exact ⟨h1, h2, h5, h3, h4, h6, hw⟩
    | cons g G =>
      have := ih (by simpa using hL)
      refine ⟨by omega, by omega, by omega, this.2.2.2⟩

theorem Way.all {i j : Nat} {G : List Gap} (h : Way a b i j G) (g L : Gap) (hg : G.head? = some g) (hL : G.getLast? = some L) :
    Way a b i j [⟨g.fo, g.fn, L.eo, L.en⟩] := by
  induction h with
  | done => simp at hg
  | keep i j G h1 _ ih => exact .keep i j _ h1 (ih hg hL)
  | gap i j i' j' G h1 h2 h3 h4 h5 h6 hw _ =>
    have hW : Way a b i j (⟨i, j, i', j'⟩ :: G) := .gap i j i' j' G h1 h2 h3 h4 h5 h6 hw
    obtain ⟨e1, e2, e3, e4, e5, e6, e7⟩ := hW.end_ L hL
    simp at hg
    subst hg
    exact .gap i j L.eo L.en [] e1 e2 e4 e5 e3 e6 e7
end

/-- If there would be too many, one gap has all. -/
def few (G : List Gap) : List Gap := if h : 512 < G.length then [⟨G[0].fo, G[0].fn, (G[G.length - 1]'(by omega)).eo, (G[G.length - 1]'(by omega)).en⟩] else G
theorem few_len (G : List Gap) : (few G).length ≤ 512 ∧ (few G).length ≤ G.length := by
  unfold few
  split
  · simp; omega
  · omega
theorem Way.few {α : Type} [DecidableEq α] {a b : List α} {i j : Nat} {G : List Gap} (h : Way a b i j G) : Way a b i j (few G) := by
  unfold Dl.few
  split
  · rename_i hl
    refine h.all G[0] (G[G.length - 1]'(by omega)) ?_ ?_
    · rw [List.head?_eq_getElem?]; exact List.getElem?_eq_getElem (by omega)
    · rw [List.getLast?_eq_getElem?]; exact List.getElem?_eq_getElem (by omega)
  · exact h
end Dl
end Go.Proofs.YthbmnnnlkgbieaaGreatDoor
/- Mathematics: where all others are the same, and none of those stands anywhere else, there is one way. -/
namespace Go.Proofs.YthbmnnnlkgbieaaGreatDoor
namespace Dl
section
variable {α : Type} [DecidableEq α] {a b : List α}

/-- How many of f places from i on are not marked. -/
def cf (p : Nat → Bool) : Nat → Nat → Nat
  | 0, _ => 0
  | f + 1, i => (if p i = true then 0 else 1) + cf p f (i + 1)
def ct (p : Nat → Bool) (n i : Nat) : Nat := cf p (n - i) i
theorem ct_step {p : Nat → Bool} {n i : Nat} (h : i < n) : ct p n i = (if p i = true then 0 else 1) + ct p n (i + 1) := by
  unfold ct
  obtain ⟨f, hf⟩ : ∃ f, n - i = f + 1 := ⟨n - i - 1, by omega⟩
  have : n - (i + 1) = f := by omega
  rw [hf, this, cf]
theorem ct_end {p : Nat → Bool} {n i : Nat} (h : n ≤ i) : ct p n i = 0 := by
  unfold ct
  rw [show n - i = 0 by omega, cf]
theorem ct_add {p : Nat → Bool} {n i : Nat} (d : Nat) : ct p n (i + d) ≤ ct p n i := by
  induction d with
  | zero => exact Nat.le_refl _
  | succ k ih =>
    by_cases hn : i + k < n
    · have := ct_step (p := p) hn
      rw [← Nat.add_assoc]
      omega
    · rw [ct_end (by omega)]; omega
theorem ct_mono {p : Nat → Bool} {n i j : Nat} (h : i ≤ j) : ct p n j ≤ ct p n i := by
  have := ct_add (p := p) (n := n) (i := i) (j - i)
  rwa [show i + (j - i) = j by omega] at this
/-- Two lists that differ at the marked places alone; what stands there stands at no other place of the other list. -/
structure Mark (a b : List α) (p : Nat → Bool) : Prop where
  len : a.length = b.length
  off : ∀ i j, At a b i j → p i = false ∧ p j = false
  on : ∀ i, i < a.length → p i = false → At a b i i
  one : ∀ i, i + 1 < a.length → p i = true → p (i + 1) = false

theorem Mark.le {p : Nat → Bool} (h : Mark a b p) : ∀ (m i j : Nat), (a.length - i) + (a.length - j) ≤ m → L a b i j ≤ ct p a.length i ∧ L a b i j ≤ ct p a.length j := by
  intro m
  induction m with
  | zero =>
    intro i j hm
    have : a.drop i = [] := List.drop_eq_nil_of_le (by omega)
    unfold L
    rw [this, lcs_nil_left]
    omega
  | succ m ih =>
    intro i j hm
    by_cases hi : i < a.length
    · by_cases hj : j < b.length
      · have hl := h.len
        by_cases he : a[i] = b[j]
        · have hat : At a b i j := ⟨a[i], List.getElem?_eq_getElem hi, by rw [he]; exact List.getElem?_eq_getElem hj⟩
          obtain ⟨p1, p2⟩ := h.off i j hat
          have := ih (i + 1) (j + 1) (by omega)
          rw [L_at hat, ct_step hi, ct_step (n := a.length) (i := j) (by omega), p1, p2]
          simp only [Bool.false_eq_true, if_false]
          omega
        · have h1 := ih (i + 1) j (by omega)
          have h2 := ih i (j + 1) (by omega)
          have e : L a b i j = max (L a b (i + 1) j) (L a b i (j + 1)) := by
            unfold L
            rw [List.drop_eq_getElem_cons hi, List.drop_eq_getElem_cons hj, lcs_cons, if_neg he]
          have m1 := ct_mono (p := p) (n := a.length) (Nat.le_add_right i 1)
          have m2 := ct_mono (p := p) (n := a.length) (Nat.le_add_right j 1)
          omega
      · have : b.drop j = [] := List.drop_eq_nil_of_le (by omega)
        unfold L
        rw [this, lcs_nil_right]
        omega
    · have : a.drop i = [] := List.drop_eq_nil_of_le (by omega)
      unfold L
      rw [this, lcs_nil_left]
      omega
theorem Mark.ge {p : Nat → Bool} (h : Mark a b p) : ∀ (m i : Nat), a.length - i ≤ m → ct p a.length i ≤ L a b i i := by
  intro m
  induction m with
  | zero => intro i hm; rw [ct_end (by omega)]; omega
  | succ m ih =>
    intro i hm
    by_cases hi : i < a.length
    · have := ih (i + 1) (by omega)
      rw [ct_step hi]
      cases hp : p i
      · have := L_at (h.on i hi hp)
        simp only [Bool.false_eq_true, if_false]
        omega
      · have e : L a b (i + 1) (i + 1) ≤ L a b i i := lcs_mono (List.drop_sublist_drop_left a (Nat.le_add_right i 1)) (List.drop_sublist_drop_left b (Nat.le_add_right i 1))
        simp only [if_true]
        omega
    · rw [ct_end (by omega)]; omega

/-- The gaps of the marked places, f places from i on. -/
def marks (p : Nat → Bool) : Nat → Nat → List Gap
  | 0, _ => []
  | f + 1, i => if p i = true then ⟨i, i, i + 1, i + 1⟩ :: marks p f (i + 1) else marks p f (i + 1)
theorem Mark.only {p : Nat → Bool} (h : Mark a b p) {i j : Nat} {G : List Gap} (hg : Good a b i j G) : i = j → G = marks p (a.length - i) i := by
  induction hg with
  | done => intro _; rw [show a.length - a.length = 0 by omega]; rfl
  | keep i j G h1 _ ih =>
    intro e
    subst e
    have hi : i < a.length := by
      obtain ⟨x, h2, _⟩ := h1
      exact (List.getElem?_eq_some_iff.1 h2).1
    obtain ⟨f, hf⟩ : ∃ f, a.length - i = f + 1 := ⟨a.length - i - 1, by omega⟩
    rw [hf, marks, if_neg (by rw [(h.off i i h1).1]; decide), ih rfl, show a.length - (i + 1) = f by omega]
  | gap i j i' j' G h1 h2 h3 h4 h5 h6 h7 hw ih =>
    intro e
    subst e
    have hl := h.len
    have c1 := h.ge _ i (Nat.le_refl _)
    obtain ⟨c2, c3⟩ := h.le _ i' j' (Nat.le_refl _)
    -- the places up to the ends are marked
    have key : ∀ k, i < k → k ≤ a.length → ct p a.length i ≤ ct p a.length k → k = i + 1 ∧ p i = true := by
      intro k hk hka hc
      have m1 := ct_mono (p := p) (n := a.length) (show i + 1 ≤ k by omega)
      have s1 := ct_step (p := p) (show i < a.length by omega)
      have pi : p i = true := by
        cases hp : p i
        · rw [hp] at s1; simp only [Bool.false_eq_true, if_false] at s1; omega
        · rfl
      refine ⟨?_, pi⟩
      by_cases hk2 : k = i + 1
      · exact hk2
      · have m2 := ct_mono (p := p) (n := a.length) (show i + 1 + 1 ≤ k by omega)
        have s2 := ct_step (p := p) (show i + 1 < a.length by omega)
        rw [h.one i (by omega) pi] at s2
        simp only [Bool.false_eq_true, if_false] at s2
        rw [pi] at s1
        simp only [if_true] at s1
        omega
    have ki : i < i' → i' = i + 1 ∧ p i = true := fun hh => key i' hh h3 (by omega)
    have kj : i < j' → j' = i + 1 ∧ p i = true := fun hh => key j' hh (by omega) (by omega)
    have hi' : i' = i + 1 ∧ j' = i + 1 ∧ p i = true := by
      rcases Nat.lt_or_ge i i' with x | x
      · obtain ⟨e1, e2⟩ := ki x
        rcases Nat.lt_or_ge i j' with y | y
        · exact ⟨e1, (kj y).1, e2⟩
        · exfalso
          have : j' = i := by omega
          rcases h7 with ⟨_, z⟩ | z
          · omega
          · have := (h.off _ _ z).2
            rw [‹j' = i›, e2] at this; cases this
      · have e0 : i' = i := by omega
        have y : i < j' := by omega
        obtain ⟨e1, e2⟩ := kj y
        exfalso
        rcases h7 with ⟨z, _⟩ | z
        · omega
        · have := (h.off _ _ z).1
          rw [e0, e2] at this; cases this
    obtain ⟨e1, e2, e3⟩ := hi'
    subst e1 e2
    obtain ⟨f, hf⟩ : ∃ f, a.length - i = f + 1 := ⟨a.length - i - 1, by omega⟩
    rw [hf, marks, if_pos e3, ih rfl, show a.length - (i + 1) = f by omega]
end
end Dl
end Go.Proofs.YthbmnnnlkgbieaaGreatDoor
/- Mathematics: what two lists have in common, from the front on. -/
namespace Go.Proofs.YthbmnnnlkgbieaaGreatDoor
namespace Dl
section
variable {α : Type} [DecidableEq α]

/-- How many the first i and the first j have in common. -/
def pre (a b : List α) (i j : Nat) : Nat := lcs (a.take i) (b.take j)
theorem pre_zero_left (a b : List α) (j : Nat) : pre a b 0 j = 0 := by unfold pre; rw [List.take_zero, lcs_nil_left]
theorem pre_zero_right (a b : List α) (i : Nat) : pre a b i 0 = 0 := by unfold pre; rw [List.take_zero, lcs_nil_right]
theorem pre_step {a b : List α} {i j : Nat} (hi : i < a.length) (hj : j < b.length) :
    pre a b (i + 1) (j + 1) = if a[i] = b[j] then pre a b i j + 1 else max (pre a b i (j + 1)) (pre a b (i + 1) j) := by
  unfold pre
  rw [List.take_succ_eq_append_getElem hi, List.take_succ_eq_append_getElem hj, lcs_snoc]
theorem pre_mono {a b : List α} {i j i' j' : Nat} (h1 : i ≤ i') (h2 : j ≤ j') : pre a b i j ≤ pre a b i' j' :=
  lcs_mono (List.take_sublist_take_left h1) (List.take_sublist_take_left h2)
theorem pre_all (a b : List α) : pre a b a.length b.length = lcs a b := by unfold pre; rw [List.take_length, List.take_length]
/-- The step of the rows of scores. -/
theorem pre_row {a b : List α} {i j : Nat} (hi : i < a.length) (hj : j < b.length) :
    pre a b (i + 1) (j + 1) = if a[i] = b[j] ∧ pre a b i j + 1 > max (pre a b (i + 1) j) (pre a b i (j + 1)) then pre a b i j + 1 else max (pre a b (i + 1) j) (pre a b i (j + 1)) := by
  have m1 : pre a b (i + 1) j ≤ pre a b (i + 1) (j + 1) := pre_mono (Nat.le_refl _) (Nat.le_add_right _ _)
  have m2 : pre a b i (j + 1) ≤ pre a b (i + 1) (j + 1) := pre_mono (Nat.le_add_right _ _) (Nat.le_refl _)
  have h := pre_step hi hj
  by_cases he : a[i] = b[j]
  · rw [if_pos he] at h
    split
    · exact h
    · rename_i hn
      have : ¬ (pre a b i j + 1 > max (pre a b (i + 1) j) (pre a b i (j + 1))) := fun hh => hn ⟨he, hh⟩
      omega
  · rw [if_neg he] at h
    rw [if_neg (fun hh => he hh.1), h, Nat.max_comm]
end
end Dl
end Go.Proofs.YthbmnnnlkgbieaaGreatDoor
