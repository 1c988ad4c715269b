/- Plain mathematics: UTF-8 over lists of bytes: the character with which bytes begin, where they stop being UTF-8, how many characters they are. -/
import Derived.Lib.DecodeN
import Derived.Lib.RuneBytes
namespace Go.Proofs.YthbmnnnlkgbieaaGreatDoor
open Go.Lib (decodeN encodeRune encodeRuneZ)

theorem len_pos {l : List UInt8} (h : l ≠ []) : 0 < l.length := by cases l <;> simp_all
/-- The character with which some bytes begin, and how many bytes it has. -/
def dec (l : List UInt8) : Nat × Nat := decodeN l.length (l.getD 0 0).toNat (l.getD 1 0).toNat (l.getD 2 0).toNat (l.getD 3 0).toNat
/-- Do they begin with a character? -/
def okc (l : List UInt8) : Bool := !(decide (dec l = (65533, 1)))

/-- The five ways of decoding. -/
theorem decN_ways (n b0 b1 b2 b3 : Nat) :
    (decodeN n b0 b1 b2 b3 = (65533, 1) ∧ 128 ≤ b0) ∨ (b0 < 128 ∧ decodeN n b0 b1 b2 b3 = (b0, 1)) ∨
    (b0 / 32 = 6 ∧ 1 < n ∧ b1 / 64 = 2 ∧ 128 ≤ b0 % 32 * 64 + b1 % 64 ∧ decodeN n b0 b1 b2 b3 = (b0 % 32 * 64 + b1 % 64, 2)) ∨
    (b0 / 16 = 14 ∧ 2 < n ∧ b1 / 64 = 2 ∧ b2 / 64 = 2 ∧ 2048 ≤ b0 % 16 * 4096 + b1 % 64 * 64 + b2 % 64 ∧ ¬ (55296 ≤ b0 % 16 * 4096 + b1 % 64 * 64 + b2 % 64 ∧ b0 % 16 * 4096 + b1 % 64 * 64 + b2 % 64 < 57344) ∧
      decodeN n b0 b1 b2 b3 = (b0 % 16 * 4096 + b1 % 64 * 64 + b2 % 64, 3)) ∨
    (b0 / 8 = 30 ∧ 3 < n ∧ b1 / 64 = 2 ∧ b2 / 64 = 2 ∧ b3 / 64 = 2 ∧ 65536 ≤ b0 % 8 * 262144 + b1 % 64 * 4096 + b2 % 64 * 64 + b3 % 64 ∧ b0 % 8 * 262144 + b1 % 64 * 4096 + b2 % 64 * 64 + b3 % 64 ≤ 1114111 ∧
      decodeN n b0 b1 b2 b3 = (b0 % 8 * 262144 + b1 % 64 * 4096 + b2 % 64 * 64 + b3 % 64, 4)) := by
  unfold decodeN
  by_cases h0 : b0 < 128
  · right; left; exact ⟨h0, by rw [if_pos h0]⟩
  rw [if_neg h0]
  by_cases h1 : b0 / 32 = 6 ∧ (1 < n ∧ b1 / 64 = 2)
  · rw [if_pos h1]
    by_cases g : b0 % 32 * 64 + b1 % 64 ≥ 128
    · rw [if_pos g]; right; right; left; exact ⟨h1.1, h1.2.1, h1.2.2, g, rfl⟩
    · rw [if_neg g]; left; exact ⟨rfl, by omega⟩
  rw [if_neg h1]
  by_cases h2 : b0 / 16 = 14 ∧ (1 < n ∧ b1 / 64 = 2) ∧ (2 < n ∧ b2 / 64 = 2)
  · rw [if_pos h2]
    by_cases g : b0 % 16 * 4096 + b1 % 64 * 64 + b2 % 64 ≥ 2048 ∧ (b0 % 16 * 4096 + b1 % 64 * 64 + b2 % 64 < 55296 ∨ (57344 ≤ b0 % 16 * 4096 + b1 % 64 * 64 + b2 % 64 ∧ b0 % 16 * 4096 + b1 % 64 * 64 + b2 % 64 ≤ 1114111))
    · rw [if_pos g]; right; right; right; left; exact ⟨h2.1, h2.2.2.1, h2.2.1.2, h2.2.2.2, g.1, by omega, rfl⟩
    · rw [if_neg g]; left; exact ⟨rfl, by omega⟩
  rw [if_neg h2]
  by_cases h3 : b0 / 8 = 30 ∧ (1 < n ∧ b1 / 64 = 2) ∧ (2 < n ∧ b2 / 64 = 2) ∧ (3 < n ∧ b3 / 64 = 2)
  · rw [if_pos h3]
    by_cases g : b0 % 8 * 262144 + b1 % 64 * 4096 + b2 % 64 * 64 + b3 % 64 ≥ 65536 ∧ (b0 % 8 * 262144 + b1 % 64 * 4096 + b2 % 64 * 64 + b3 % 64 < 55296 ∨ (57344 ≤ b0 % 8 * 262144 + b1 % 64 * 4096 + b2 % 64 * 64 + b3 % 64 ∧ b0 % 8 * 262144 + b1 % 64 * 4096 + b2 % 64 * 64 + b3 % 64 ≤ 1114111))
    · rw [if_pos g]; right; right; right; right; exact ⟨h3.1, h3.2.2.2.1, h3.2.1.2, h3.2.2.1.2, h3.2.2.2.2, g.1, by omega, rfl⟩
    · rw [if_neg g]; left; exact ⟨rfl, by omega⟩
  rw [if_neg h3]
  left; exact ⟨rfl, by omega⟩

theorem decN_pos (n b0 b1 b2 b3 : Nat) : 1 ≤ (decodeN n b0 b1 b2 b3).2 ∧ (decodeN n b0 b1 b2 b3).2 ≤ 4 := by
  rcases decN_ways n b0 b1 b2 b3 with ⟨h, _⟩ | ⟨_, h⟩ | ⟨_, _, _, _, h⟩ | ⟨_, _, _, _, _, _, h⟩ | ⟨_, _, _, _, _, _, _, h⟩ <;> rw [h] <;> simp
theorem decN_le (n b0 b1 b2 b3 : Nat) (hn : 1 ≤ n) : (decodeN n b0 b1 b2 b3).2 ≤ n := by
  rcases decN_ways n b0 b1 b2 b3 with ⟨h, _⟩ | ⟨_, h⟩ | ⟨_, _, _, _, h⟩ | ⟨_, _, _, _, _, _, h⟩ | ⟨_, _, _, _, _, _, _, h⟩ <;> rw [h] <;> simp <;> omega
theorem decN_rune (n b0 b1 b2 b3 : Nat) : (decodeN n b0 b1 b2 b3).1 ≤ 1114111 := by
  rcases decN_ways n b0 b1 b2 b3 with ⟨h, _⟩ | ⟨_, h⟩ | ⟨_, _, _, _, h⟩ | ⟨_, _, _, _, _, _, h⟩ | ⟨_, _, _, _, _, _, _, h⟩ <;> rw [h] <;> simp <;> omega
/-- What is a character stays one, whatever stands behind. -/
theorem decN_more (n n' b0 b1 b2 b3 c1 c2 c3 : Nat) (hn : n ≤ n') (h1 : 1 < n → c1 = b1) (h2 : 2 < n → c2 = b2) (h3 : 3 < n → c3 = b3) (hok : decodeN n b0 b1 b2 b3 ≠ (65533, 1)) :
    decodeN n' b0 c1 c2 c3 = decodeN n b0 b1 b2 b3 := by
  rcases decN_ways n b0 b1 b2 b3 with ⟨h, _⟩ | ⟨g, h⟩ | ⟨g1, g2, g3, g4, h⟩ | ⟨g1, g2, g3, g4, g5, g6, h⟩ | ⟨g1, g2, g3, g4, g5, g6, g7, h⟩
  · exact absurd h hok
  · rw [h]; unfold decodeN; rw [if_pos g]
  · obtain rfl := h1 (by omega)
    rw [h]; unfold decodeN
    rw [if_neg (by omega), if_pos ⟨g1, by omega, g3⟩, if_pos g4]
  · obtain rfl := h1 (by omega)
    obtain rfl := h2 (by omega)
    rw [h]; unfold decodeN
    rw [if_neg (by omega), if_neg (by omega), if_pos ⟨g1, ⟨by omega, g3⟩, by omega, g4⟩, if_pos ⟨g5, by omega⟩]
  · obtain rfl := h1 (by omega)
    obtain rfl := h2 (by omega)
    obtain rfl := h3 (by omega)
    rw [h]; unfold decodeN
    rw [if_neg (by omega), if_neg (by omega), if_neg (by omega), if_pos ⟨g1, ⟨by omega, g3⟩, ⟨by omega, g4⟩, by omega, g5⟩, if_pos ⟨g6, by omega⟩]

theorem dec_pos (l : List UInt8) : 1 ≤ (dec l).2 := (decN_pos _ _ _ _ _).1
theorem dec_le4 (l : List UInt8) : (dec l).2 ≤ 4 := (decN_pos _ _ _ _ _).2
theorem dec_le (l : List UInt8) (h : l ≠ []) : (dec l).2 ≤ l.length := decN_le _ _ _ _ _ (len_pos h)
theorem dec_rune (l : List UInt8) : (dec l).1 ≤ 1114111 := decN_rune _ _ _ _ _
theorem okc_ne {l : List UInt8} (h : okc l = true) : dec l ≠ (65533, 1) := by simpa [okc] using h
theorem okc_bad {l : List UInt8} (h : okc l = false) : dec l = (65533, 1) := by simpa [okc] using h
theorem getD_app (l m : List UInt8) (i : Nat) (h : i < l.length) : (l ++ m).getD i 0 = l.getD i 0 := by
  simp [List.getD_eq_getElem?_getD, List.getElem?_append_left h]
theorem dec_app {l : List UInt8} (m : List UInt8) (h : l ≠ []) (hok : okc l = true) : dec (l ++ m) = dec l := by
  have h0 := len_pos h
  unfold dec
  rw [getD_app l m 0 h0]
  exact decN_more _ _ _ _ _ _ _ _ _ (by simp) (fun g => by rw [getD_app l m 1 g]) (fun g => by rw [getD_app l m 2 g]) (fun g => by rw [getD_app l m 3 g]) (okc_ne hok)
theorem okc_app {l : List UInt8} (m : List UInt8) (h : l ≠ []) (hok : okc l = true) : okc (l ++ m) = true := by
  have e := dec_app m h hok
  unfold okc at hok ⊢
  rw [e]
  exact hok
/-- A character's bytes behind the first one are 80 to bf. -/
theorem dec_more {l : List UInt8} (_h : l ≠ []) (hok : okc l = true) (j : Nat) (h0 : 0 < j) (hj : j < (dec l).2) : (l.getD j 0).toNat / 64 = 2 := by
  have hn := okc_ne hok
  unfold dec at hj hn
  rcases decN_ways l.length (l.getD 0 0).toNat (l.getD 1 0).toNat (l.getD 2 0).toNat (l.getD 3 0).toNat with ⟨g, _⟩ | ⟨_, g⟩ | ⟨_, _, g3, _, g⟩ | ⟨_, _, g3, g4, _, _, g⟩ | ⟨_, _, g3, g4, g5, _, _, g⟩
  · exact absurd g hn
  all_goals
    rw [g] at hj
    simp only at hj
  · omega
  · obtain rfl : j = 1 := by omega
    exact g3
  · rcases (by omega : j = 1 ∨ j = 2) with rfl | rfl
    · exact g3
    · exact g4
  · rcases (by omega : j = 1 ∨ j = 2 ∨ j = 3) with rfl | rfl | rfl
    · exact g3
    · exact g4
    · exact g5

/-- A character alone. -/
theorem dec_of {l t : List UInt8} (_h : l ≠ []) (hok : okc l = true) (hl : t.length = (dec l).2) (hget : ∀ i, i < (dec l).2 → t.getD i 0 = l.getD i 0) : dec t = dec l ∧ okc t = true := by
  have hn := okc_ne hok
  have key : dec t = dec l := by
    obtain ⟨w, hw⟩ : ∃ w, w = (dec l).2 := ⟨_, rfl⟩
    rw [← hw] at hl hget
    have hpos := dec_pos l
    rw [← hw] at hpos
    have e : dec t = decodeN t.length (t.getD 0 0).toNat (t.getD 1 0).toNat (t.getD 2 0).toNat (t.getD 3 0).toNat := rfl
    rw [e, hl, hget 0 (by omega)]
    have e' : dec l = decodeN l.length (l.getD 0 0).toNat (l.getD 1 0).toNat (l.getD 2 0).toNat (l.getD 3 0).toNat := rfl
    rw [e'] at hw hn ⊢
    rcases decN_ways l.length (l.getD 0 0).toNat (l.getD 1 0).toNat (l.getD 2 0).toNat (l.getD 3 0).toNat with ⟨g, _⟩ | ⟨g0, g⟩ | ⟨g1, g2, g3, g4, g⟩ | ⟨g1, g2, g3, g4, g5, g6, g⟩ | ⟨g1, g2, g3, g4, g5, g6, g7, g⟩
    · exact absurd g hn
    · rw [g]
      unfold decodeN
      rw [if_pos g0]
    · rw [g] at hw ⊢
      simp only at hw
      subst hw
      rw [hget 1 (by omega)]
      unfold decodeN
      rw [if_neg (by omega), if_pos ⟨g1, by omega, g3⟩, if_pos g4]
    · rw [g] at hw ⊢
      simp only at hw
      subst hw
      rw [hget 1 (by omega), hget 2 (by omega)]
      unfold decodeN
      rw [if_neg (by omega), if_neg (by omega), if_pos ⟨g1, ⟨by omega, g3⟩, by omega, g4⟩, if_pos ⟨g5, by omega⟩]
    · rw [g] at hw ⊢
      simp only at hw
      subst hw
      rw [hget 1 (by omega), hget 2 (by omega), hget 3 (by omega)]
      unfold decodeN
      rw [if_neg (by omega), if_neg (by omega), if_neg (by omega), if_pos ⟨g1, ⟨by omega, g3⟩, ⟨by omega, g4⟩, by omega, g5⟩, if_pos ⟨g6, by omega⟩]
  refine ⟨key, ?_⟩
  unfold okc
  rw [key]
  simpa [okc] using hok

/-- How many characters. -/
def cnt (l : List UInt8) : Nat := if h : l = [] then 0 else 1 + cnt (l.drop (dec l).2)
termination_by l.length
decreasing_by
  have := dec_pos l
  have := len_pos h
  simp
  omega
/-- Where bytes stop being UTF-8. -/
def badAt (l : List UInt8) : Option Nat := if _h : l = [] then none else if okc l = true then (badAt (l.drop (dec l).2)).map (· + (dec l).2) else some 0
termination_by l.length
decreasing_by
  have := dec_pos l
  have := len_pos _h
  simp
  omega
def badI (l : List UInt8) : Int := match badAt l with | none => -1 | some k => k

theorem cnt_nil : cnt [] = 0 := by rw [cnt]; simp
theorem cnt_step {l : List UInt8} (h : l ≠ []) : cnt l = 1 + cnt (l.drop (dec l).2) := by rw [cnt]; simp [h]
theorem bad_nil : badAt [] = none := by rw [badAt]; simp
theorem bad_step {l : List UInt8} (h : l ≠ []) (hok : okc l = true) : badAt l = (badAt (l.drop (dec l).2)).map (· + (dec l).2) := by rw [badAt]; simp [h, hok]
theorem bad_here {l : List UInt8} (h : l ≠ []) (hok : okc l = false) : badAt l = some 0 := by rw [badAt]; simp [h, hok]
theorem badI_neg {l : List UInt8} : badI l < 0 ↔ badAt l = none := by
  unfold badI
  split <;> simp_all <;> omega
theorem badI_none {l : List UInt8} (h : badAt l = none) : badI l = -1 := by unfold badI; rw [h]

theorem cnt_le (l : List UInt8) : cnt l ≤ l.length := by
  by_cases h : l = []
  · subst h; simp [cnt_nil]
  · rw [cnt_step h]
    have h1 := dec_pos l
    have h2 := dec_le l h
    have h0 := len_pos h
    have := cnt_le (l.drop (dec l).2)
    rw [List.length_drop] at this
    omega
termination_by l.length
decreasing_by
  simp
  omega

/-- Strong induction over bytes, character by character. -/
theorem by_chars {motive : List UInt8 → Prop} (nil : motive []) (step : ∀ l, l ≠ [] → motive (l.drop (dec l).2) → motive l) (l : List UInt8) : motive l := by
  by_cases h : l = []
  · subst h; exact nil
  · exact step l h (by_chars nil step _)
termination_by l.length
decreasing_by
  have := dec_pos l
  have := len_pos h
  simp
  omega

theorem good_step {l : List UInt8} (h : l ≠ []) (hg : badAt l = none) : okc l = true ∧ badAt (l.drop (dec l).2) = none := by
  cases hok : okc l
  · rw [bad_here h hok] at hg; cases hg
  · rw [bad_step h hok] at hg
    exact ⟨rfl, by simpa using hg⟩
/-- Behind bytes that are UTF-8 others count by themselves. -/
theorem cnt_app (l m : List UInt8) (hg : badAt l = none) : cnt (l ++ m) = cnt l + cnt m ∧ badAt (l ++ m) = (badAt m).map (· + l.length) := by
  revert hg
  refine by_chars (motive := fun l => badAt l = none → cnt (l ++ m) = cnt l + cnt m ∧ badAt (l ++ m) = (badAt m).map (· + l.length)) ?_ ?_ l
  · intro _
    simp [cnt_nil]
  · intro l h ih hg
    obtain ⟨hok, hg'⟩ := good_step h hg
    obtain ⟨i1, i2⟩ := ih hg'
    have hne : l ++ m ≠ [] := by simp [h]
    have hd := dec_app m h hok
    have hle := dec_le l h
    have e : (l ++ m).drop (dec l).2 = l.drop (dec l).2 ++ m := by rw [List.drop_append_of_le_length hle]
    constructor
    · rw [cnt_step hne, cnt_step h, hd, e, i1]
      omega
    · rw [bad_step hne (okc_app m h hok), hd, e, i2, Option.map_map]
      congr 1
      funext k
      simp only [Function.comp_apply, List.length_drop]
      omega
theorem good_app {l m : List UInt8} (h1 : badAt l = none) (h2 : badAt m = none) : badAt (l ++ m) = none := by
  rw [(cnt_app l m h1).2, h2]; rfl

/-- A place where a character begins, in bytes that are UTF-8: both parts are UTF-8, and have as many characters together. -/
theorem cut_ok (l : List UInt8) (hg : badAt l = none) : ∀ k, k ≤ l.length → (k < l.length → (l.getD k 0).toNat / 64 ≠ 2) →
    badAt (l.take k) = none ∧ badAt (l.drop k) = none ∧ cnt (l.take k) + cnt (l.drop k) = cnt l := by
  revert hg
  refine by_chars (motive := fun l => badAt l = none → ∀ k, k ≤ l.length → (k < l.length → (l.getD k 0).toNat / 64 ≠ 2) → badAt (l.take k) = none ∧ badAt (l.drop k) = none ∧ cnt (l.take k) + cnt (l.drop k) = cnt l) ?_ ?_ l
  · intro hg k hk _
    simp [bad_nil, cnt_nil]
  · intro l h ih hg k hk hb
    obtain ⟨hok, hg'⟩ := good_step h hg
    have hle := dec_le l h
    have hpos := dec_pos l
    by_cases h0 : k = 0
    · subst h0
      simp [bad_nil, cnt_nil, hg]
    by_cases hw : k < (dec l).2
    · exact absurd (dec_more h hok k (by omega) hw) (hb (by omega))
    have key := ih hg' (k - (dec l).2) (by rw [List.length_drop]; omega) (fun hlt => by
      rw [List.length_drop] at hlt
      have := hb (by omega)
      have e : (l.drop (dec l).2).getD (k - (dec l).2) 0 = l.getD k 0 := by
        simp only [List.getD_eq_getElem?_getD, List.getElem?_drop]
        rw [show (dec l).2 + (k - (dec l).2) = k by omega]
      rw [e]
      exact this)
    have e1 : l.take k = l.take (dec l).2 ++ (l.drop (dec l).2).take (k - (dec l).2) := by
      rw [← List.take_add]
      congr 1
      omega
    have e2 : (l.drop (dec l).2).drop (k - (dec l).2) = l.drop k := by
      rw [List.drop_drop]
      congr 1
      omega
    rw [e2] at key
    obtain ⟨k1, k2, k3⟩ := key
    have k4 := cnt_step h
    have c1 : l.take (dec l).2 ≠ [] := by
      intro e
      have := congrArg List.length e
      rw [List.length_take, Nat.min_eq_left hle, List.length_nil] at this
      omega
    have hl0 : (l.take (dec l).2).length = (dec l).2 := by rw [List.length_take]; omega
    have d1 := dec_of (t := l.take (dec l).2) h hok hl0 (fun i hi => by simp [List.getD_eq_getElem?_getD, hi])
    have one : badAt (l.take (dec l).2) = none ∧ cnt (l.take (dec l).2) = 1 := by
      have hl : (l.take (dec l).2).drop (dec l).2 = [] := List.drop_eq_nil_of_le (by rw [List.length_take]; omega)
      constructor
      · rw [bad_step c1 d1.2, d1.1, hl, bad_nil]; rfl
      · rw [cnt_step c1, d1.1, hl, cnt_nil]
    refine ⟨by rw [e1]; exact good_app one.1 k1, k2, ?_⟩
    rw [e1, (cnt_app _ _ one.1).1, one.2]
    omega

/-- What some numbers below 256 decode as. -/
theorem dec_nums (l : List Int) (x w : Nat) (hne : l ≠ []) (hw : l.length = w)
    (h : decodeN w ((l.getD 0 0).toNat % 256) ((l.getD 1 0).toNat % 256) ((l.getD 2 0).toNat % 256) ((l.getD 3 0).toNat % 256) = (x, w)) (hx : x ≠ 65533 ∨ w ≠ 1) :
    badAt (l.map fun x : Int => x.toNat.toUInt8) = none ∧ cnt (l.map fun x : Int => x.toNat.toUInt8) = 1 := by
  have hg : ∀ i, ((l.map fun x : Int => x.toNat.toUInt8).getD i 0).toNat = (l.getD i 0).toNat % 256 := fun i => by
    simp only [List.getD_eq_getElem?_getD, List.getElem?_map]
    cases l[i]? <;> simp
  have hd : dec (l.map fun x : Int => x.toNat.toUInt8) = (x, w) := by
    unfold dec
    rw [hg, hg, hg, hg, List.length_map, hw]
    exact h
  have hok : okc (l.map fun x : Int => x.toNat.toUInt8) = true := by
    unfold okc
    rw [hd]
    simp
    omega
  have hne' : (l.map fun x : Int => x.toNat.toUInt8) ≠ [] := by simpa using hne
  have hl : (l.map fun x : Int => x.toNat.toUInt8).drop (dec (l.map fun x : Int => x.toNat.toUInt8)).2 = [] := List.drop_eq_nil_of_le (by rw [hd, List.length_map]; simp only; omega)
  constructor
  · rw [bad_step hne' hok, hl, bad_nil]; rfl
  · rw [cnt_step hne', hl, cnt_nil]

/-- A character's bytes are one character. -/
theorem enc_one (r : Int) : badAt (encodeRune r) = none ∧ cnt (encodeRune r) = 1 := by
  unfold encodeRune
  by_cases h1 : 0 ≤ r ∧ r ≤ 127
  · rw [Lib.encodeRuneZ_one h1.1 h1.2]
    refine dec_nums _ r.toNat 1 (by simp) rfl ?_ (.inl (by omega))
    unfold decodeN
    have e : r.toNat % 256 = r.toNat := by omega
    simp [e]
    omega
  by_cases h2 : 128 ≤ r ∧ r ≤ 2047
  · rw [Lib.encodeRuneZ_two h2.1 h2.2]
    obtain ⟨n, rfl⟩ : ∃ n : Nat, r = n := ⟨r.toNat, by omega⟩
    refine dec_nums _ n 2 (by simp) rfl ?_ (.inr (by omega))
    have a0 : (192 + (n : Int) / 64).toNat % 256 = 192 + n / 64 := by omega
    have a1 : (128 + (n : Int) % 64).toNat % 256 = 128 + n % 64 := by omega
    simp only [List.getD_cons_zero, List.getD_cons_succ, List.getD_nil, a0, a1]
    unfold decodeN
    rw [if_neg (by omega), if_pos ⟨by omega, by omega, by omega⟩, if_pos (by omega)]
    congr 1
    omega
  by_cases h3 : (2048 ≤ r ∧ r < 55296) ∨ (57343 < r ∧ r ≤ 65535)
  · rw [Lib.encodeRuneZ_three h3]
    obtain ⟨n, rfl⟩ : ∃ n : Nat, r = n := ⟨r.toNat, by omega⟩
    refine dec_nums _ n 3 (by simp) rfl ?_ (.inr (by omega))
    have a0 : (224 + (n : Int) / 4096).toNat % 256 = 224 + n / 4096 := by omega
    have a1 : (128 + (n : Int) / 64 % 64).toNat % 256 = 128 + n / 64 % 64 := by omega
    have a2 : (128 + (n : Int) % 64).toNat % 256 = 128 + n % 64 := by omega
    simp only [List.getD_cons_zero, List.getD_cons_succ, List.getD_nil, a0, a1, a2]
    have ex : (224 + n / 4096) % 16 * 4096 + (128 + n / 64 % 64) % 64 * 64 + (128 + n % 64) % 64 = n := by omega
    unfold decodeN
    rw [if_neg (by omega), if_neg (by omega), if_pos ⟨by omega, ⟨by omega, by omega⟩, by omega, by omega⟩, ex, if_pos (by omega)]
  by_cases h4 : 65536 ≤ r ∧ r ≤ 1114111
  · rw [Lib.encodeRuneZ_four h4.1 h4.2]
    obtain ⟨n, rfl⟩ : ∃ n : Nat, r = n := ⟨r.toNat, by omega⟩
    refine dec_nums _ n 4 (by simp) rfl ?_ (.inr (by omega))
    have a0 : (240 + (n : Int) / 262144).toNat % 256 = 240 + n / 262144 := by omega
    have a1 : (128 + (n : Int) / 4096 % 64).toNat % 256 = 128 + n / 4096 % 64 := by omega
    have a2 : (128 + (n : Int) / 64 % 64).toNat % 256 = 128 + n / 64 % 64 := by omega
    have a3 : (128 + (n : Int) % 64).toNat % 256 = 128 + n % 64 := by omega
    simp only [List.getD_cons_zero, List.getD_cons_succ, a0, a1, a2, a3]
    have ex : (240 + n / 262144) % 8 * 262144 + (128 + n / 4096 % 64) % 64 * 4096 + (128 + n / 64 % 64) % 64 * 64 + (128 + n % 64) % 64 = n := by omega
    unfold decodeN
    rw [if_neg (by omega), if_neg (by omega), if_neg (by omega), if_pos ⟨by omega, ⟨by omega, by omega⟩, ⟨by omega, by omega⟩, by omega, by omega⟩, ex, if_pos (by omega)]
  rw [Lib.encodeRuneZ_bad (by omega)]
  exact dec_nums _ 65533 3 (by simp) rfl (by decide) (.inr (by omega))
/-- The bytes of some characters. -/
def encs (l : List Int) : List UInt8 := l.flatMap encodeRune
theorem enc_all : ∀ l : List Int, badAt (encs l) = none ∧ cnt (encs l) = l.length
  | [] => by simp [encs, bad_nil, cnt_nil]
  | r :: l => by
    have h1 := enc_one r
    have h2 := enc_all l
    have e : encs (r :: l) = encodeRune r ++ encs l := rfl
    rw [e, (cnt_app _ _ h1.1).1, good_app h1.1 h2.1, h1.2, h2.2]
    exact ⟨rfl, by simp; omega⟩
theorem encs_snoc (l : List Int) (r : Int) : encs (l ++ [r]) = encs l ++ encodeRune r := by simp [encs]
end Go.Proofs.YthbmnnnlkgbieaaGreatDoor
