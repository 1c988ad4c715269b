/- Plain mathematics: rows merged in place. -/
import Derived.Test.YtendbkbjmibchaaSD
namespace Go.Proofs.Ytendbkbjmibchaa
open Go.RowKit Go.Sort Go.Proofs Go.Shelf

/-- x stands behind y: it is less. -/
abbrev LT (x y : Ed) : Bool := ltOf cf x y
def Srt (d : Nat → Ed) (a b : Nat) : Prop := ∀ i j, a ≤ i → i < j → j < b → LT (d j) (d i) = false
theorem srt_iff (d : Array Ed) (a b : Nat) : SortedIn (ltOf cf) a b d ↔ Srt (at_ d) a b := Iff.rfl
theorem lt_asymm {x y : Ed} (h : LT x y = true) : LT y x = false := by
  rw [LT, ltcf] at *
  simp only [decide_eq_true_iff, decide_eq_false_iff_not] at *
  omega
theorem le_trans_ {x y z : Ed} (h : LT y x = false) (g : LT z y = false) : LT z x = false := swocf.ntrans z y x g h
theorem lt_le {x y z : Ed} (h : LT x y = true) (g : LT z y = false) : LT z x = false := le_trans_ (lt_asymm h) g
theorem le_refl_ (x : Ed) : LT x x = false := swocf.irrefl x
theorem Srt.le {d : Nat → Ed} {a b : Nat} (h : Srt d a b) {i j : Nat} (hi : a ≤ i) (hij : i ≤ j) (hj : j < b) : LT (d j) (d i) = false := by
  rcases Nat.lt_or_ge i j with g | g
  · exact h i j hi g hj
  · obtain rfl : i = j := by omega
    exact le_refl_ _

theorem merge_left {d d2 : Nat → Ed} {a b i : Nat} (h : Srt d (a + 1) b) (h0 : a + 1 ≤ i) (hib : i ≤ b) (h1 : ∀ x, a + 1 ≤ x → x < i → LT (d x) (d a) = true) (h2 : ∀ x, i ≤ x → x < b → LT (d x) (d a) = false) (hd : ∀ x, d2 x = rot d a (a + 1) i x) : Srt d2 a b := by
  have e1 : ∀ x, a ≤ x → x + 1 < i → d2 x = d (x + 1) := fun x g1 g2 => by rw [hd]; unfold rot; rw [if_pos (by omega), if_pos (by omega)]; congr 1; omega
  have e2 : d2 (i - 1) = d a := by rw [hd]; unfold rot; rw [if_pos (by omega), if_neg (by omega)]; congr 1; omega
  have e3 : ∀ x, i ≤ x → d2 x = d x := fun x g => by rw [hd]; unfold rot; rw [if_neg (by omega)]
  intro x y hx hxy hy
  by_cases c1 : y + 1 < i
  · rw [e1 y (by omega) c1, e1 x hx (by omega)]
    exact h _ _ (by omega) (by omega) (by omega)
  · by_cases c2 : y < i
    · obtain rfl : y = i - 1 := by omega
      rw [e2, e1 x hx (by omega)]
      exact lt_asymm (h1 _ (by omega) (by omega))
    · rw [e3 y (by omega)]
      by_cases c3 : x + 1 < i
      · rw [e1 x hx c3]
        exact h.le (by omega) (by omega) hy
      · by_cases c4 : x < i
        · obtain rfl : x = i - 1 := by omega
          rw [e2]
          exact h2 _ (by omega) hy
        · rw [e3 x (by omega)]
          exact h _ _ (by omega) hxy hy

theorem merge_right {d d2 : Nat → Ed} {a m i : Nat} (h : Srt d a m) (h0 : a ≤ i) (him : i ≤ m) (h1 : ∀ x, a ≤ x → x < i → LT (d m) (d x) = false) (h2 : ∀ x, i ≤ x → x < m → LT (d m) (d x) = true) (hd : ∀ x, d2 x = rot d i m (m + 1) x) : Srt d2 a (m + 1) := by
  have e1 : ∀ x, x < i → d2 x = d x := fun x g => by rw [hd]; unfold rot; rw [if_neg (by omega)]
  have e2 : d2 i = d m := by rw [hd]; unfold rot; rw [if_pos (by omega), if_pos (by omega)]; congr 1; omega
  have e3 : ∀ x, i < x → x ≤ m → d2 x = d (x - 1) := fun x g1 g2 => by rw [hd]; unfold rot; rw [if_pos (by omega), if_neg (by omega)]; congr 1; omega
  intro x y hx hxy hy
  by_cases c1 : y < i
  · rw [e1 y c1, e1 x (by omega)]
    exact h _ _ hx hxy (by omega)
  · by_cases c2 : y = i
    · subst c2
      rw [e2, e1 x hxy]
      exact h1 _ hx hxy
    · rw [e3 y (by omega) (by omega)]
      by_cases c3 : x < i
      · rw [e1 x c3]
        exact h.le hx (by omega) (by omega)
      · by_cases c4 : x = i
        · subst c4
          rw [e2]
          exact lt_asymm (h2 _ (by omega) (by omega))
        · rw [e3 x (by omega) (by omega)]
          exact h _ _ (by omega) (by omega) (by omega)

/-- Where the search ends: what goes to the left half is no greater than what goes to the right. -/
structure Cutat (d : Nat → Ed) (a m b mid s0 r0 s : Nat) : Prop where
  am : a < m
  mb : m < b
  hmid : mid = (a + b) / 2
  hs : s0 ≤ s ∧ s ≤ r0
  start : (mid < m ∧ s0 = mid + m - b ∧ r0 = mid) ∨ (m ≤ mid ∧ s0 = a ∧ r0 = m)
  lo : ∀ c, s0 ≤ c → c < s → LT (d (mid + m - 1 - c)) (d c) = false
  hi : ∀ c, s ≤ c → c < r0 → LT (d (mid + m - 1 - c)) (d c) = true
variable {d d1 : Nat → Ed} {a m b mid s0 r0 s : Nat}
theorem Cutat.places (h : Cutat d a m b mid s0 r0 s) : a ≤ s ∧ s ≤ m ∧ s ≤ mid ∧ mid ≤ mid + m - s ∧ m ≤ mid + m - s ∧ mid + m - s ≤ b ∧ a ≤ mid ∧ mid < b := by
  have := h.am
  have := h.mb
  have := h.hmid
  have := h.hs
  rcases h.start with ⟨_, _, _⟩ | ⟨_, _, _⟩ <;> omega
/-- Behind the rotation: each quarter is in order, the halves stand right. -/
theorem Cutat.turned (h : Cutat d a m b mid s0 r0 s) (h1 : Srt d a m) (h2 : Srt d m b) (hd : ∀ x, d1 x = rot d s m (mid + m - s) x) :
    Srt d1 a s ∧ Srt d1 s mid ∧ Srt d1 mid (mid + m - s) ∧ Srt d1 (mid + m - s) b ∧ ∀ x y, a ≤ x → x < mid → mid ≤ y → y < b → LT (d1 y) (d1 x) = false := by
  obtain ⟨p1, p2, p3, p4, p5, p6, p7, p8⟩ := h.places
  obtain ⟨q1, q2⟩ := h.hs
  have am := h.am
  have mb := h.mb
  have e1 : ∀ x, x < s → d1 x = d x := fun x g => by rw [hd]; unfold rot; rw [if_neg (by omega)]
  have e2 : ∀ x, s ≤ x → x < mid → d1 x = d (x + m - s) := fun x g1 g2 => by rw [hd]; unfold rot; rw [if_pos (by omega), if_pos (by omega)]
  have e3 : ∀ x, mid ≤ x → x < mid + m - s → d1 x = d (x - (mid - s)) := fun x g1 g2 => by rw [hd]; unfold rot; rw [if_pos (by omega), if_neg (by omega)]; congr 1; omega
  have e4 : ∀ x, mid + m - s ≤ x → d1 x = d x := fun x g => by rw [hd]; unfold rot; rw [if_neg (by omega)]
  refine ⟨fun x y hx hxy hy => ?_, fun x y hx hxy hy => ?_, fun x y hx hxy hy => ?_, fun x y hx hxy hy => ?_, fun x y hx hxm hy hyb => ?_⟩
  · rw [e1 y hy, e1 x (by omega)]; exact h1 _ _ hx hxy (by omega)
  · rw [e2 y (by omega) hy, e2 x hx (by omega)]; exact h2 _ _ (by omega) (by omega) (by omega)
  · rw [e3 y (by omega) hy, e3 x hx (by omega)]; exact h1 _ _ (by omega) (by omega) (by omega)
  · rw [e4 y (by omega), e4 x hx]; exact h2 _ _ (by omega) hxy hy
  · by_cases cx : x < s
    · rw [e1 x cx]
      by_cases cy : y < mid + m - s
      · rw [e3 y hy cy]; exact h1 _ _ hx (by omega) (by omega)
      · rw [e4 y (by omega)]
        by_cases c0 : s0 < s
        · have g := h.lo (s - 1) (by omega) (by omega)
          rw [show mid + m - 1 - (s - 1) = mid + m - s by omega] at g
          have g1 := h1.le hx (show x ≤ s - 1 by omega) (by omega)
          have g2 := h2.le (show m ≤ mid + m - s by omega) (show mid + m - s ≤ y by omega) hyb
          exact le_trans_ (le_trans_ g1 g) g2
        · rcases h.start with ⟨_, _, _⟩ | ⟨_, _, _⟩ <;> omega
    · rw [e2 x (by omega) hxm]
      by_cases cy : y < mid + m - s
      · rw [e3 y hy cy]
        by_cases c0 : s < r0
        · have g := h.hi s (Nat.le_refl _) c0
          have g1 := h2.le (show m ≤ x + m - s by omega) (show x + m - s ≤ mid + m - 1 - s by omega) (by omega)
          have g2 := h1.le (show a ≤ s by omega) (show s ≤ y - (mid - s) by omega) (by omega)
          exact le_trans_ g1 (lt_le g g2)
        · rcases h.start with ⟨_, _, _⟩ | ⟨_, _, _⟩ <;> omega
      · rw [e4 y (by omega)]; exact h2 _ _ (by omega) (by omega) hyb
/-- Halves in order, the halves right: the whole is in order. -/
theorem srt_join {d : Nat → Ed} {a p b : Nat} (h1 : Srt d a p) (h2 : Srt d p b) (h3 : ∀ x y, a ≤ x → x < p → p ≤ y → y < b → LT (d y) (d x) = false) : Srt d a b := by
  intro x y hx hxy hy
  by_cases c1 : y < p
  · exact h1 _ _ hx hxy c1
  · by_cases c2 : x < p
    · exact h3 _ _ hx c2 (by omega) hy
    · exact h2 _ _ (by omega) hxy hy
end Go.Proofs.Ytendbkbjmibchaa
