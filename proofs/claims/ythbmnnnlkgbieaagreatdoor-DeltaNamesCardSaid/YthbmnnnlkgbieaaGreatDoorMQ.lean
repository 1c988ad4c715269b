/- Plain mathematics: strings as the language writes them. -/
namespace Go.Proofs.YthbmnnnlkgbieaaGreatDoor

/-- The sign behind the backslash with which a byte is written. -/
def sg (b : UInt8) : UInt8 := if b = 10 then 110 else if b = 9 then 116 else if b = 34 then 34 else if b = 92 then 92 else 0
def sb (b : UInt8) : Bool := b == 10 || b == 9 || b == 34 || b == 92
/-- How a byte is written. -/
def esc (b : UInt8) : List UInt8 := if sb b = true then [92, sg b] else [b]
/-- What a sign behind a backslash means. -/
def mn (b : UInt8) : UInt8 := if b = 110 then 10 else if b = 116 then 9 else if b = 34 then 34 else if b = 92 then 92 else 0
def mb (b : UInt8) : Bool := b == 110 || b == 116 || b == 34 || b == 92
def quoL (l : List UInt8) : List UInt8 := 34 :: (l.flatMap esc ++ [34])
/-- What stands between the quotes, read; with a backslash just ahead, or not. -/
def um : List UInt8 → Bool → Option (List UInt8)
  | [], sl => if sl = true then none else some []
  | b :: t, true => if mb b = true then (um t false).map (mn b :: ·) else none
  | b :: t, false => if b = 92 then um t true else if b < 32 ∨ b = 34 then none else (um t false).map (b :: ·)
def unq (l : List UInt8) : Option (List UInt8) := if l.length < 2 ∨ l.getD 0 0 ≠ 34 ∨ l.getD (l.length - 1) 0 ≠ 34 then none else um ((l.drop 1).take (l.length - 2)) false

theorem flat_snoc (l : List UInt8) (b : UInt8) : (l ++ [b]).flatMap esc = l.flatMap esc ++ esc b := by simp
theorem flat_len : ∀ l : List UInt8, (l.flatMap esc).length ≤ 2 * l.length
  | [] => by simp
  | b :: l => by
    have := flat_len l
    simp only [List.flatMap_cons, List.length_append, List.length_cons]
    have h : (esc b).length ≤ 2 := by unfold esc; split <;> simp
    omega
theorem quo_len (l : List UInt8) : (quoL l).length ≤ 2 * l.length + 2 := by
  have := flat_len l
  simp only [quoL, List.length_cons, List.length_append, List.length_nil]
  omega
theorem um_len : ∀ (l : List UInt8) (sl : Bool) (o : List UInt8), um l sl = some o → o.length ≤ l.length
  | [], sl, o, h => by
    unfold um at h
    split at h
    · cases h
    · cases h; simp
  | b :: t, true, o, h => by
    unfold um at h
    split at h
    · obtain ⟨x, hx, rfl⟩ := Option.map_eq_some_iff.1 h
      have := um_len t false x hx
      simp; omega
    · cases h
  | b :: t, false, o, h => by
    unfold um at h
    split at h
    · have := um_len t true o h
      simp; omega
    · split at h
      · cases h
      · obtain ⟨x, hx, rfl⟩ := Option.map_eq_some_iff.1 h
        have := um_len t false x hx
        simp; omega

theorem um_end (sl : Bool) : um [] sl = if sl = true then none else some [] := by rw [um]
theorem um_sign {b : UInt8} (t : List UInt8) (h : mb b = true) : um (b :: t) true = (um t false).map (mn b :: ·) := by rw [um, if_pos h]
theorem um_nosign {b : UInt8} (t : List UInt8) (h : mb b = false) : um (b :: t) true = none := by rw [um, if_neg (by simp [h])]
theorem um_slash (t : List UInt8) : um (92 :: t) false = um t true := by rw [um, if_pos rfl]
theorem um_low {b : UInt8} (t : List UInt8) (h0 : b ≠ 92) (h : b < 32 ∨ b = 34) : um (b :: t) false = none := by rw [um, if_neg h0, if_pos h]
theorem um_byte {b : UInt8} (t : List UInt8) (h0 : b ≠ 92) (h : ¬ (b < 32 ∨ b = 34)) : um (b :: t) false = (um t false).map (b :: ·) := by rw [um, if_neg h0, if_neg h]

theorem esc_read (b : UInt8) (t : List UInt8) : um (esc b ++ t) false = if b < 32 ∧ b ≠ 10 ∧ b ≠ 9 then none else (um t false).map (b :: ·) := by
  unfold esc
  by_cases h1 : b = 10
  · subst h1; simp [sb, sg, um_slash]; rw [um_sign _ (by decide)]; rfl
  by_cases h2 : b = 9
  · subst h2; simp [sb, sg, um_slash]; rw [um_sign _ (by decide)]; rfl
  by_cases h3 : b = 34
  · subst h3; simp [sb, sg, um_slash]; rw [um_sign _ (by decide)]; rfl
  by_cases h4 : b = 92
  · subst h4; simp [sb, sg, um_slash]; rw [um_sign _ (by decide)]; rfl
  have hs : sb b = false := by simp [sb, h1, h2, h3, h4]
  rw [hs, if_neg (by decide)]
  by_cases h5 : b < 32
  · rw [if_pos ⟨h5, h1, h2⟩]
    exact um_low _ h4 (.inl h5)
  · rw [if_neg (by simp [h5])]
    exact um_byte _ h4 (by simp [h5, h3])
/-- Does a text have a byte below 32 but a tab and a line feed? -/
def low (l : List UInt8) : Bool := l.any fun b => decide (b < 32) && (b != 9) && (b != 10)
theorem um_flat (l : List UInt8) : um (l.flatMap esc) false = if low l = true then none else some l := by
  induction l with
  | nil => simp [um_end, low]
  | cons b l ih =>
    rw [List.flatMap_cons, esc_read, ih]
    by_cases h : b < 32 ∧ b ≠ 10 ∧ b ≠ 9
    · rw [if_pos h, if_pos]
      simp [low, h.1, h.2.1, h.2.2]
    · rw [if_neg h]
      have e : low (b :: l) = low l := by
        have : (decide (b < 32) && (b != 9) && (b != 10)) = false := by
          cases hx : (decide (b < 32) && (b != 9) && (b != 10))
          · rfl
          · simp at hx
            exact absurd ⟨hx.1.1, hx.2, hx.1.2⟩ h
        simp only [low, List.any_cons, this, Bool.false_or]
      rw [e]
      split <;> simp
theorem unq_quo (l : List UInt8) : unq (quoL l) = if low l = true then none else some l := by
  unfold unq
  have hl : (quoL l).length = (l.flatMap esc).length + 2 := by simp [quoL]
  have h0 : (quoL l).getD 0 0 = 34 := by simp [quoL]
  have h1 : (quoL l).getD ((quoL l).length - 1) 0 = 34 := by
    rw [hl]
    have e : (l.flatMap esc).length + 2 - 1 = (l.flatMap esc).length + 1 := by omega
    rw [e]
    simp [quoL, List.getD_eq_getElem?_getD]
  have h2 : ((quoL l).drop 1).take ((quoL l).length - 2) = l.flatMap esc := by
    rw [hl]
    have e : (l.flatMap esc).length + 2 - 2 = (l.flatMap esc).length := by omega
    rw [e]
    simp [quoL]
  rw [if_neg (by rw [h0, h1, hl]; simp), h2]
  exact um_flat l
/-- What was read has no byte that can't be read again. -/
theorem um_ok : ∀ (l : List UInt8) (sl : Bool) (o : List UInt8), um l sl = some o → low o = false
  | [], sl, o, h => by
    unfold um at h
    split at h
    · cases h
    · cases h; rfl
  | b :: t, true, o, h => by
    unfold um at h
    split at h
    · rename_i hm
      obtain ⟨x, hx, rfl⟩ := Option.map_eq_some_iff.1 h
      have ih := um_ok t false x hx
      have : (decide (mn b < 32) && (mn b != 9) && (mn b != 10)) = false := by
        simp [mb] at hm
        rcases hm with ((rfl | rfl) | rfl) | rfl <;> decide
      simp only [low, List.any_cons, this, Bool.false_or]
      exact ih
    · cases h
  | b :: t, false, o, h => by
    unfold um at h
    split at h
    · exact um_ok t true o h
    · split at h
      · cases h
      · rename_i h1 h2
        obtain ⟨x, hx, rfl⟩ := Option.map_eq_some_iff.1 h
        have ih := um_ok t false x hx
        have h3 : ¬ b < 32 := fun e => h2 (.inl e)
        simp only [low, List.any_cons, h3, decide_false, Bool.false_and, Bool.false_or]
        exact ih
theorem unq_ok {l o : List UInt8} (h : unq l = some o) : low o = false := by
  unfold unq at h
  split at h
  · cases h
  · exact um_ok _ _ _ h
theorem unq_len {l o : List UInt8} (h : unq l = some o) : o.length ≤ l.length := by
  unfold unq at h
  split at h
  · cases h
  · have := um_len _ _ _ h
    rw [List.length_take] at this
    omega
theorem unq_again {l o : List UInt8} (h : unq l = some o) : unq (quoL o) = some o := by rw [unq_quo, unq_ok h]; rfl
theorem um_pre {W O : List UInt8} {sl : Bool} {m : UInt8} {t : List UInt8} {b : UInt8} (h : um W false = (um (b :: t) sl).map (O ++ ·)) (he : um (b :: t) sl = (um t false).map (m :: ·)) : um W false = (um t false).map ((O ++ [m]) ++ ·) := by
  rw [h, he, Option.map_map]
  congr 1
  funext x
  simp
end Go.Proofs.YthbmnnnlkgbieaaGreatDoor
