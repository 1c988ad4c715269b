/- Plain mathematics: strings as the language writes them. -/
import Derived.Lib.DecodeN
import Derived.Lib.RuneBytes
import Derived.Test.YtifkjngclkklfaaGreatDoorRows
import Derived.WalkKit
import Derived.WalkLawsBesides
import Derived.WalkSpells
import Derived.BigQuiet
import Derived.Deep.QuietTactic
import Derived.Lib.Hide
namespace Go.Proofs.YtifkjngclkklfaaGreatDoor

/-- The sign behind the backslash with which a byte is written. -/
def sg (b : UInt8) : UInt8 := if b = 10 then 110 else if b = 9 then 116 else if b = 34 then 34 else if b = 92 then 92 else 0
def sb (b : UInt8) : Bool := b == 10 || b == 9 || b == 34 || b == 92
/-- How a byte is written. -/
def esc (b : UInt8) : List UInt8 := if sb b = true then [92, sg b] else [b]
/-- What a sign behind a backslash means. -/
def mn (b : UInt8) : UInt8 := if b = 110 then 10 else if b = 116 then 9 else if b = 34 then 34 else if b = 92 then 92 else 0
def mb (b : UInt8) : Bool := b == 110 || b == 116 || b == 34 || b == 92
def quoL (l : List UInt8) : List UInt8 := 34 :: (l.flatMap esc ++ [34])
/-- What stands between the quotes, read; with a backslash just ahead, or not. -/
def um : List UInt8 → Bool → Option (List UInt8)
  | [], sl => if sl = true then none else some []
  | b :: t, true => if mb b = true then (um t false).map (mn b :: ·) else none
  | b :: t, false => if b = 92 then um t true else if b < 32 ∨ b = 34 then none else (um t false).map (b :: ·)
def unq (l : List UInt8) : Option (List UInt8) := if l.length < 2 ∨ l.getD 0 0 ≠ 34 ∨ l.getD (l.length - 1) 0 ≠ 34 then none else um ((l.drop 1).take (l.length - 2)) false

theorem flat_snoc (l : List UInt8) (b : UInt8) : (l ++ [b]).flatMap esc = l.flatMap esc ++ esc b := by simp
theorem flat_len : ∀ l : List UInt8, (l.flatMap esc).length ≤ 2 * l.length
  | [] => by simp
  | b :: l => by
    have := flat_len l
    simp only [List.flatMap_cons, List.length_append, List.length_cons]
    have h : (esc b).length ≤ 2 := by unfold esc; split <;> simp
    omega
theorem quo_len (l : List UInt8) : (quoL l).length ≤ 2 * l.length + 2 := by
  have := flat_len l
  simp only [quoL, List.length_cons, List.length_append, List.length_nil]
  omega
theorem um_len : ∀ (l : List UInt8) (sl : Bool) (o : List UInt8), um l sl = some o → o.length ≤ l.length
  | [], sl, o, h => by
    unfold um at h
    split at h
    · cases h
    · cases h; simp
  | b :: t, true, o, h => by
    unfold um at h
    split at h
    · obtain ⟨x, hx, rfl⟩ := Option.map_eq_some_iff.1 h
      have := um_len t false x hx
      simp; omega
    · cases h
  | b :: t, false, o, h => by
    unfold um at h
    split at h
    · have := um_len t true o h
      simp; omega
    · split at h
      · cases h
      · obtain ⟨x, hx, rfl⟩ := Option.map_eq_some_iff.1 h
        have := um_len t false x hx
        simp; omega

theorem um_end (sl : Bool) : um [] sl = if sl = true then none else some [] := by rw [um]
theorem um_sign {b : UInt8} (t : List UInt8) (h : mb b = true) : um (b :: t) true = (um t false).map (mn b :: ·) := by rw [um, if_pos h]
theorem um_nosign {b : UInt8} (t : List UInt8) (h : mb b = false) : um (b :: t) true = none := by rw [um, if_neg (by simp [h])]
theorem um_slash (t : List UInt8) : um (92 :: t) false = um t true := by rw [um, if_pos rfl]
theorem um_low {b : UInt8} (t : List UInt8) (h0 : b ≠ 92) (h : b < 32 ∨ b = 34) : um (b :: t) false = none := by rw [um, if_neg h0, if_pos h]
theorem um_byte {b : UInt8} (t : List UInt8) (h0 : b ≠ 92) (h : ¬ (b < 32 ∨ b = 34)) : um (b :: t) false = (um t false).map (b :: ·) := by rw [um, if_neg h0, if_neg h]

theorem esc_read (b : UInt8) (t : List UInt8) : um (esc b ++ t) false = if b < 32 ∧ b ≠ 10 ∧ b ≠ 9 then none else (um t false).map (b :: ·) := by
  unfold esc
  by_cases h1 : b = 10
  · subst h1; simp [sb, sg, um_slash]; rw [um_sign _ (by decide)]; rfl
  by_cases h2 : b = 9
  · subst h2; simp [sb, sg, um_slash]; rw [um_sign _ (by decide)]; rfl
  by_cases h3 : b = 34
  · subst h3; simp [sb, sg, um_slash]; rw [um_sign _ (by decide)]; rfl
  by_cases h4 : b = 92
  · subst h4; simp [sb, sg, um_slash]; rw [um_sign _ (by decide)]; rfl
  have hs : sb b = false := by simp [sb, h1, h2, h3, h4]
  rw [hs, if_neg (by decide)]
  by_cases h5 : b < 32
  · rw [if_pos ⟨h5, h1, h2⟩]
    exact um_low _ h4 (.inl h5)
  · rw [if_neg (by simp [h5])]
    exact um_byte _ h4 (by simp [h5, h3])
/-- Does a text have a byte below 32 but a tab and a line feed? -/
def low (l : List UInt8) : Bool := l.any fun b => decide (b < 32) && (b != 9) && (b != 10)
theorem um_flat (l : List UInt8) : um (l.flatMap esc) false = if low l = true then none else some l := by
  induction l with
  | nil => simp [um_end, low]
  | cons b l ih =>
    rw [List.flatMap_cons, esc_read, ih]
    by_cases h : b < 32 ∧ b ≠ 10 ∧ b ≠ 9
    · rw [if_pos h, if_pos]
      simp [low, h.1, h.2.1, h.2.2]
    · rw [if_neg h]
      have e : low (b :: l) = low l := by
        have : (decide (b < 32) && (b != 9) && (b != 10)) = false := by
          cases hx : (decide (b < 32) && (b != 9) && (b != 10))
          · rfl
          · simp at hx
            exact absurd ⟨hx.1.1, hx.2, hx.1.2⟩ h
        simp only [low, List.any_cons, this, Bool.false_or]
      rw [e]
      split <;> simp
theorem unq_quo (l : List UInt8) : unq (quoL l) = if low l = true then none else some l := by
  unfold unq
  have hl : (quoL l).length = (l.flatMap esc).length + 2 := by simp [quoL]
  have h0 : (quoL l).getD 0 0 = 34 := by simp [quoL]
  have h1 : (quoL l).getD ((quoL l).length - 1) 0 = 34 := by
    rw [hl]
    have e : (l.flatMap esc).length + 2 - 1 = (l.flatMap esc).length + 1 := by omega
    rw [e]
    simp [quoL, List.getD_eq_getElem?_getD]
  have h2 : ((quoL l).drop 1).take ((quoL l).length - 2) = l.flatMap esc := by
    rw [hl]
    have e : (l.flatMap esc).length + 2 - 2 = (l.flatMap esc).length := by omega
    rw [e]
    simp [quoL]
  rw [if_neg (by rw [h0, h1, hl]; simp), h2]
  exact um_flat l
/-- What was read has no byte that can't be read again. -/
theorem um_ok : ∀ (l : List UInt8) (sl : Bool) (o : List UInt8), um l sl = some o → low o = false
  | [], sl, o, h => by
    unfold um at h
    split at h
    · cases h
    · cases h; rfl
  | b :: t, true, o, h => by
    unfold um at h
    split at h
    · rename_i hm
      obtain ⟨x, hx, rfl⟩ := Option.map_eq_some_iff.1 h
      have ih := um_ok t false x hx
      have : (decide (mn b < 32) && (mn b != 9) && (mn b != 10)) = false := by
        simp [mb] at hm
        rcases hm with ((rfl | rfl) | rfl) | rfl <;> decide
      simp only [low, List.any_cons, this, Bool.false_or]
      exact ih
    · cases h
  | b :: t, false, o, h => by
    unfold um at h
    split at h
    · exact um_ok t true o h
    · split at h
      · cases h
      · rename_i h1 h2
        obtain ⟨x, hx, rfl⟩ := Option.map_eq_some_iff.1 h
        have ih := um_ok t false x hx
        have h3 : ¬ b < 32 := fun e => h2 (.inl e)
        simp only [low, List.any_cons, h3, decide_false, Bool.false_and, Bool.false_or]
        exact ih
theorem unq_ok {l o : List UInt8} (h : unq l = some o) : low o = false := by
  unfold unq at h
  split at h
  · cases h
  · exact um_ok _ _ _ h
theorem unq_len {l o : List UInt8} (h : unq l = some o) : o.length ≤ l.length := by
  unfold unq at h
  split at h
  · cases h
  · have := um_len _ _ _ h
    rw [List.length_take] at this
    omega
theorem unq_again {l o : List UInt8} (h : unq l = some o) : unq (quoL o) = some o := by rw [unq_quo, unq_ok h]; rfl
theorem um_pre {W O : List UInt8} {sl : Bool} {m : UInt8} {t : List UInt8} {b : UInt8} (h : um W false = (um (b :: t) sl).map (O ++ ·)) (he : um (b :: t) sl = (um t false).map (m :: ·)) : um W false = (um t false).map ((O ++ [m]) ++ ·) := by
  rw [h, he, Option.map_map]
  congr 1
  funext x
  simp
end Go.Proofs.YtifkjngclkklfaaGreatDoor
/- Plain mathematics: tokens of lists of bytes. -/
namespace Go.Proofs.YtifkjngclkklfaaGreatDoor

def letN (n : Int) : Bool := decide ((97 ≤ n ∧ n ≤ 122) ∨ (65 ≤ n ∧ n ≤ 90) ∨ n = 95)
def digN (n : Int) : Bool := decide (48 ≤ n ∧ n ≤ 57)
def blkN (n : Int) : Bool := decide (n = 32 ∨ n = 9 ∨ n = 10 ∨ n = 13)
def wdN (n : Int) : Bool := letN n || digN n
/-- Is one in a comment behind a byte? -/
def cmt (c : Bool) (n : Int) : Bool := if n = 10 then false else if n = 35 then true else c
/-- Is the next sign meant by a backslash? -/
def sls (c : Bool) (n : Int) : Bool := decide (n = 92) && !c

/-- How many bytes a machine goes through: it has a state; at each byte it turns it, and says whether it goes on. -/
def runM (st : Bool → Int → Bool) (go : Bool → Int → Bool) : Bool → List UInt8 → Nat
  | _, [] => 0
  | c, b :: t => if go c b.toNat = true then 1 + runM st go (st c b.toNat) t else 0
theorem runM_le (st go : Bool → Int → Bool) : ∀ (c : Bool) (l : List UInt8), runM st go c l ≤ l.length
  | _, [] => Nat.le_refl _
  | c, b :: t => by
    have := runM_le st go (st c b.toNat) t
    unfold runM
    split <;> simp <;> omega
theorem runM_go {st go : Bool → Int → Bool} {c : Bool} {b : UInt8} {t : List UInt8} (h : go c b.toNat = true) : runM st go c (b :: t) = 1 + runM st go (st c b.toNat) t := by rw [runM, if_pos h]
theorem runM_stop {st go : Bool → Int → Bool} {c : Bool} {b : UInt8} {t : List UInt8} (h : go c b.toNat = false) : runM st go c (b :: t) = 0 := by rw [runM, if_neg (by simp [h])]

def wSt (c : Bool) (_n : Int) : Bool := c
def wGo (_c : Bool) (n : Int) : Bool := wdN n
def lGo (c : Bool) (n : Int) : Bool := cmt c n || blkN n
def qGo (c : Bool) (n : Int) : Bool := decide (n ≠ 34) || c
def wLen (l : List UInt8) : Nat := runM wSt wGo false l
def lLen (l : List UInt8) : Nat := runM cmt lGo false l
def qLen (l : List UInt8) : Nat := runM sls qGo false l
end Go.Proofs.YtifkjngclkklfaaGreatDoor
/- Plain mathematics: UTF-8 over lists of bytes: the character with which bytes begin, where they stop being UTF-8, how many characters they are. -/
namespace Go.Proofs.YtifkjngclkklfaaGreatDoor
open Go.Lib (decodeN encodeRune encodeRuneZ)

theorem len_pos {l : List UInt8} (h : l ≠ []) : 0 < l.length := by cases l <;> simp_all
/-- The character with which some bytes begin, and how many bytes it has. -/
def dec (l : List UInt8) : Nat × Nat := decodeN l.length (l.getD 0 0).toNat (l.getD 1 0).toNat (l.getD 2 0).toNat (l.getD 3 0).toNat
/-- Do they begin with a character? -/
def okc (l : List UInt8) : Bool := !(decide (dec l = (65533, 1)))

/-- The five ways of decoding. -/
theorem decN_ways (n b0 b1 b2 b3 : Nat) :
    (decodeN n b0 b1 b2 b3 = (65533, 1) ∧ 128 ≤ b0) ∨ (b0 < 128 ∧ decodeN n b0 b1 b2 b3 = (b0, 1)) ∨
    (b0 / 32 = 6 ∧ 1 < n ∧ b1 / 64 = 2 ∧ 128 ≤ b0 % 32 * 64 + b1 % 64 ∧ decodeN n b0 b1 b2 b3 = (b0 % 32 * 64 + b1 % 64, 2)) ∨
    (b0 / 16 = 14 ∧ 2 < n ∧ b1 / 64 = 2 ∧ b2 / 64 = 2 ∧ 2048 ≤ b0 % 16 * 4096 + b1 % 64 * 64 + b2 % 64 ∧ ¬ (55296 ≤ b0 % 16 * 4096 + b1 % 64 * 64 + b2 % 64 ∧ b0 % 16 * 4096 + b1 % 64 * 64 + b2 % 64 < 57344) ∧
      decodeN n b0 b1 b2 b3 = (b0 % 16 * 4096 + b1 % 64 * 64 + b2 % 64, 3)) ∨
    (b0 / 8 = 30 ∧ 3 < n ∧ b1 / 64 = 2 ∧ b2 / 64 = 2 ∧ b3 / 64 = 2 ∧ 65536 ≤ b0 % 8 * 262144 + b1 % 64 * 4096 + b2 % 64 * 64 + b3 % 64 ∧ b0 % 8 * 262144 + b1 % 64 * 4096 + b2 % 64 * 64 + b3 % 64 ≤ 1114111 ∧
      decodeN n b0 b1 b2 b3 = (b0 % 8 * 262144 + b1 % 64 * 4096 + b2 % 64 * 64 + b3 % 64, 4)) := by
  unfold decodeN
  by_cases h0 : b0 < 128
  · right; left; exact ⟨h0, by rw [if_pos h0]⟩
  rw [if_neg h0]
  by_cases h1 : b0 / 32 = 6 ∧ (1 < n ∧ b1 / 64 = 2)
  · rw [if_pos h1]
    by_cases g : b0 % 32 * 64 + b1 % 64 ≥ 128
    · rw [if_pos g]; right; right; left; exact ⟨h1.1, h1.2.1, h1.2.2, g, rfl⟩
    · rw [if_neg g]; left; exact ⟨rfl, by omega⟩
  rw [if_neg h1]
  by_cases h2 : b0 / 16 = 14 ∧ (1 < n ∧ b1 / 64 = 2) ∧ (2 < n ∧ b2 / 64 = 2)
  · rw [if_pos h2]
    by_cases g : b0 % 16 * 4096 + b1 % 64 * 64 + b2 % 64 ≥ 2048 ∧ (b0 % 16 * 4096 + b1 % 64 * 64 + b2 % 64 < 55296 ∨ (57344 ≤ b0 % 16 * 4096 + b1 % 64 * 64 + b2 % 64 ∧ b0 % 16 * 4096 + b1 % 64 * 64 + b2 % 64 ≤ 1114111))
    · rw [if_pos g]; right; right; right; left; exact ⟨h2.1, h2.2.2.1, h2.2.1.2, h2.2.2.2, g.1, by omega, rfl⟩
    · rw [if_neg g]; left; exact ⟨rfl, by omega⟩
  rw [if_neg h2]
  by_cases h3 : b0 / 8 = 30 ∧ (1 < n ∧ b1 / 64 = 2) ∧ (2 < n ∧ b2 / 64 = 2) ∧ (3 < n ∧ b3 / 64 = 2)
  · rw [if_pos h3]
    by_cases g : b0 % 8 * 262144 + b1 % 64 * 4096 + b2 % 64 * 64 + b3 % 64 ≥ 65536 ∧ (b0 % 8 * 262144 + b1 % 64 * 4096 + b2 % 64 * 64 + b3 % 64 < 55296 ∨ (57344 ≤ b0 % 8 * 262144 + b1 % 64 * 4096 + b2 % 64 * 64 + b3 % 64 ∧ b0 % 8 * 262144 + b1 % 64 * 4096 + b2 % 64 * 64 + b3 % 64 ≤ 1114111))
    · rw [if_pos g]; right; right; right; right; exact ⟨h3.1, h3.2.2.2.1, h3.2.1.2, h3.2.2.1.2, h3.2.2.2.2, g.1, by omega, rfl⟩
    · rw [if_neg g]; left; exact ⟨rfl, by omega⟩
  rw [if_neg h3]
  left; exact ⟨rfl, by omega⟩

theorem decN_pos (n b0 b1 b2 b3 : Nat) : 1 ≤ (decodeN n b0 b1 b2 b3).2 ∧ (decodeN n b0 b1 b2 b3).2 ≤ 4 := by
  rcases decN_ways n b0 b1 b2 b3 with ⟨h, _⟩ | ⟨_, h⟩ | ⟨_, _, _, _, h⟩ | ⟨_, _, _, _, _, _, h⟩ | ⟨_, _, _, _, _, _, _, h⟩ <;> rw [h] <;> simp
theorem decN_le (n b0 b1 b2 b3 : Nat) (hn : 1 ≤ n) : (decodeN n b0 b1 b2 b3).2 ≤ n := by
  rcases decN_ways n b0 b1 b2 b3 with ⟨h, _⟩ | ⟨_, h⟩ | ⟨_, _, _, _, h⟩ | ⟨_, _, _, _, _, _, h⟩ | ⟨_, _, _, _, _, _, _, h⟩ <;> rw [h] <;> simp <;> omega
theorem decN_rune (n b0 b1 b2 b3 : Nat) : (decodeN n b0 b1 b2 b3).1 ≤ 1114111 := by
  rcases decN_ways n b0 b1 b2 b3 with ⟨h, _⟩ | ⟨_, h⟩ | ⟨_, _, _, _, h⟩ | ⟨_, _, _, _, _, _, h⟩ | ⟨_, _, _, _, _, _, _, h⟩ <;> rw [h] <;> simp <;> omega
/-- What is a character stays one, whatever stands behind. -/
theorem decN_more (n n' b0 b1 b2 b3 c1 c2 c3 : Nat) (hn : n ≤ n') (h1 : 1 < n → c1 = b1) (h2 : 2 < n → c2 = b2) (h3 : 3 < n → c3 = b3) (hok : decodeN n b0 b1 b2 b3 ≠ (65533, 1)) :
    decodeN n' b0 c1 c2 c3 = decodeN n b0 b1 b2 b3 := by
  rcases decN_ways n b0 b1 b2 b3 with ⟨h, _⟩ | ⟨g, h⟩ | ⟨g1, g2, g3, g4, h⟩ | ⟨g1, g2, g3, g4, g5, g6, h⟩ | ⟨g1, g2, g3, g4, g5, g6, g7, h⟩
  · exact absurd h hok
  · rw [h]; unfold decodeN; rw [if_pos g]
  · obtain rfl := h1 (by omega)
    rw [h]; unfold decodeN
    rw [if_neg (by omega), if_pos ⟨g1, by omega, g3⟩, if_pos g4]
  · obtain rfl := h1 (by omega)
    obtain rfl := h2 (by omega)
    rw [h]; unfold decodeN
    rw [if_neg (by omega), if_neg (by omega), if_pos ⟨g1, ⟨by omega, g3⟩, by omega, g4⟩, if_pos ⟨g5, by omega⟩]
  · obtain rfl := h1 (by omega)
    obtain rfl := h2 (by omega)
    obtain rfl := h3 (by omega)
    rw [h]; unfold decodeN
    rw [if_neg (by omega), if_neg (by omega), if_neg (by omega), if_pos ⟨g1, ⟨by omega, g3⟩, ⟨by omega, g4⟩, by omega, g5⟩, if_pos ⟨g6, by omega⟩]

theorem dec_pos (l : List UInt8) : 1 ≤ (dec l).2 := (decN_pos _ _ _ _ _).1
theorem dec_le4 (l : List UInt8) : (dec l).2 ≤ 4 := (decN_pos _ _ _ _ _).2
theorem dec_le (l : List UInt8) (h : l ≠ []) : (dec l).2 ≤ l.length := decN_le _ _ _ _ _ (len_pos h)
theorem dec_rune (l : List UInt8) : (dec l).1 ≤ 1114111 := decN_rune _ _ _ _ _
theorem okc_ne {l : List UInt8} (h : okc l = true) : dec l ≠ (65533, 1) := by simpa [okc] using h
theorem okc_bad {l : List UInt8} (h : okc l = false) : dec l = (65533, 1) := by simpa [okc] using h
theorem getD_app (l m : List UInt8) (i : Nat) (h : i < l.length) : (l ++ m).getD i 0 = l.getD i 0 := by
  simp [List.getD_eq_getElem?_getD, List.getElem?_append_left h]
theorem dec_app {l : List UInt8} (m : List UInt8) (h : l ≠ []) (hok : okc l = true) : dec (l ++ m) = dec l := by
  have h0 := len_pos h
  unfold dec
  rw [getD_app l m 0 h0]
  exact decN_more _ _ _ _ _ _ _ _ _ (by simp) (fun g => by rw [getD_app l m 1 g]) (fun g => by rw [getD_app l m 2 g]) (fun g => by rw [getD_app l m 3 g]) (okc_ne hok)
theorem okc_app {l : List UInt8} (m : List UInt8) (h : l ≠ []) (hok : okc l = true) : okc (l ++ m) = true := by
  have e := dec_app m h hok
  unfold okc at hok ⊢
  rw [e]
  exact hok
/-- A character's bytes behind the first one are 80 to bf. -/
theorem dec_more {l : List UInt8} (_h : l ≠ []) (hok : okc l = true) (j : Nat) (h0 : 0 < j) (hj : j < (dec l).2) : (l.getD j 0).toNat / 64 = 2 := by
  have hn := okc_ne hok
  unfold dec at hj hn
  rcases decN_ways l.length (l.getD 0 0).toNat (l.getD 1 0).toNat (l.getD 2 0).toNat (l.getD 3 0).toNat with ⟨g, _⟩ | ⟨_, g⟩ | ⟨_, _, g3, _, g⟩ | ⟨_, _, g3, g4, _, _, g⟩ | ⟨_, _, g3, g4, g5, _, _, g⟩
  · exact absurd g hn
  all_goals
    rw [g] at hj
    simp only at hj
  · omega
  · obtain rfl : j = 1 := by omega
    exact g3
  · rcases (by omega : j = 1 ∨ j = 2) with rfl | rfl
    · exact g3
    · exact g4
  · rcases (by omega : j = 1 ∨ j = 2 ∨ j = 3) with rfl | rfl | rfl
    · exact g3
    · exact g4
    · exact g5

/-- A character alone. -/
theorem dec_of {l t : List UInt8} (_h : l ≠ []) (hok : okc l = true) (hl : t.length = (dec l).2) (hget : ∀ i, i < (dec l).2 → t.getD i 0 = l.getD i 0) : dec t = dec l ∧ okc t = true := by
  have hn := okc_ne hok
  have key : dec t = dec l := by
    obtain ⟨w, hw⟩ : ∃ w, w = (dec l).2 := ⟨_, rfl⟩
    rw [← hw] at hl hget
    have hpos := dec_pos l
    rw [← hw] at hpos
    have e : dec t = decodeN t.length (t.getD 0 0).toNat (t.getD 1 0).toNat (t.getD 2 0).toNat (t.getD 3 0).toNat := rfl
    rw [e, hl, hget 0 (by omega)]
    have e' : dec l = decodeN l.length (l.getD 0 0).toNat (l.getD 1 0).toNat (l.getD 2 0).toNat (l.getD 3 0).toNat := rfl
    rw [e'] at hw hn ⊢
    rcases decN_ways l.length (l.getD 0 0).toNat (l.getD 1 0).toNat (l.getD 2 0).toNat (l.getD 3 0).toNat with ⟨g, _⟩ | ⟨g0, g⟩ | ⟨g1, g2, g3, g4, g⟩ | ⟨g1, g2, g3, g4, g5, g6, g⟩ | ⟨g1, g2, g3, g4, g5, g6, g7, g⟩
    · exact absurd g hn
    · rw [g]
      unfold decodeN
      rw [if_pos g0]
    · rw [g] at hw ⊢
      simp only at hw
      subst hw
      rw [hget 1 (by omega)]
      unfold decodeN
      rw [if_neg (by omega), if_pos ⟨g1, by omega, g3⟩, if_pos g4]
    · rw [g] at hw ⊢
      simp only at hw
      subst hw
      rw [hget 1 (by omega), hget 2 (by omega)]
      unfold decodeN
      rw [if_neg (by omega), if_neg (by omega), if_pos ⟨g1, ⟨by omega, g3⟩, by omega, g4⟩, if_pos ⟨g5, by omega⟩]
    · rw [g] at hw ⊢
      simp only at hw
      subst hw
      rw [hget 1 (by omega), hget 2 (by omega), hget 3 (by omega)]
      unfold decodeN
      rw [if_neg (by omega), if_neg (by omega), if_neg (by omega), if_pos ⟨g1, ⟨by omega, g3⟩, ⟨by omega, g4⟩, by omega, g5⟩, if_pos ⟨g6, by omega⟩]
  refine ⟨key, ?_⟩
  unfold okc
  rw [key]
  simpa [okc] using hok

/-- How many characters. -/
def cnt (l : List UInt8) : Nat := if h : l = [] then 0 else 1 + cnt (l.drop (dec l).2)
termination_by l.length
decreasing_by
  have := dec_pos l
  have := len_pos h
  simp
  omega
/-- Where bytes stop being UTF-8. -/
def badAt (l : List UInt8) : Option Nat := if _h : l = [] then none else if okc l = true then (badAt (l.drop (dec l).2)).map (· + (dec l).2) else some 0
termination_by l.length
decreasing_by
  have := dec_pos l
  have := len_pos _h
  simp
  omega
def badI (l : List UInt8) : Int := match badAt l with | none => -1 | some k => k

theorem cnt_nil : cnt [] = 0 := by rw [cnt]; simp
theorem cnt_step {l : List UInt8} (h : l ≠ []) : cnt l = 1 + cnt (l.drop (dec l).2) := by rw [cnt]; simp [h]
theorem bad_nil : badAt [] = none := by rw [badAt]; simp
theorem bad_step {l : List UInt8} (h : l ≠ []) (hok : okc l = true) : badAt l = (badAt (l.drop (dec l).2)).map (· + (dec l).2) := by rw [badAt]; simp [h, hok]
theorem bad_here {l : List UInt8} (h : l ≠ []) (hok : okc l = false) : badAt l = some 0 := by rw [badAt]; simp [h, hok]
theorem badI_neg {l : List UInt8} : badI l < 0 ↔ badAt l = none := by
  unfold badI
  split <;> simp_all <;> omega
theorem badI_none {l : List UInt8} (h : badAt l = none) : badI l = -1 := by unfold badI; rw [h]

theorem cnt_le (l : List UInt8) : cnt l ≤ l.length := by
  by_cases h : l = []
  · subst h; simp [cnt_nil]
  · rw [cnt_step h]
    have h1 := dec_pos l
    have h2 := dec_le l h
    have h0 := len_pos h
    have := cnt_le (l.drop (dec l).2)
    rw [List.length_drop] at this
    omega
termination_by l.length
decreasing_by
  simp
  omega

/-- Strong induction over bytes, character by character. -/
theorem by_chars {motive : List UInt8 → Prop} (nil : motive []) (step : ∀ l, l ≠ [] → motive (l.drop (dec l).2) → motive l) (l : List UInt8) : motive l := by
  by_cases h : l = []
  · subst h; exact nil
  · exact step l h (by_chars nil step _)
termination_by l.length
decreasing_by
  have := dec_pos l
  have := len_pos h
  simp
  omega

theorem good_step {l : List UInt8} (h : l ≠ []) (hg : badAt l = none) : okc l = true ∧ badAt (l.drop (dec l).2) = none := by
  cases hok : okc l
  · rw [bad_here h hok] at hg; cases hg
  · rw [bad_step h hok] at hg
    exact ⟨rfl, by simpa using hg⟩
/-- Behind bytes that are UTF-8 others count by themselves. -/
theorem cnt_app (l m : List UInt8) (hg : badAt l = none) : cnt (l ++ m) = cnt l + cnt m ∧ badAt (l ++ m) = (badAt m).map (· + l.length) := by
  revert hg
  refine by_chars (motive := fun l => badAt l = none → cnt (l ++ m) = cnt l + cnt m ∧ badAt (l ++ m) = (badAt m).map (· + l.length)) ?_ ?_ l
  · intro _
    simp [cnt_nil]
  · intro l h ih hg
    obtain ⟨hok, hg'⟩ := good_step h hg
    obtain ⟨i1, i2⟩ := ih hg'
    have hne : l ++ m ≠ [] := by simp [h]
    have hd := dec_app m h hok
    have hle := dec_le l h
    have e : (l ++ m).drop (dec l).2 = l.drop (dec l).2 ++ m := by rw [List.drop_append_of_le_length hle]
    constructor
    · rw [cnt_step hne, cnt_step h, hd, e, i1]
      omega
    · rw [bad_step hne (okc_app m h hok), hd, e, i2, Option.map_map]
      congr 1
      funext k
      simp only [Function.comp_apply, List.length_drop]
      omega
theorem good_app {l m : List UInt8} (h1 : badAt l = none) (h2 : badAt m = none) : badAt (l ++ m) = none := by
  rw [(cnt_app l m h1).2, h2]; rfl

/-- A place where a character begins, in bytes that are UTF-8: both parts are UTF-8, and have as many characters together. -/
theorem cut_ok (l : List UInt8) (hg : badAt l = none) : ∀ k, k ≤ l.length → (k < l.length → (l.getD k 0).toNat / 64 ≠ 2) →
    badAt (l.take k) = none ∧ badAt (l.drop k) = none ∧ cnt (l.take k) + cnt (l.drop k) = cnt l := by
  revert hg
  refine by_chars (motive := fun l => badAt l = none → ∀ k, k ≤ l.length → (k < l.length → (l.getD k 0).toNat / 64 ≠ 2) → badAt (l.take k) = none ∧ badAt (l.drop k) = none ∧ cnt (l.take k) + cnt (l.drop k) = cnt l) ?_ ?_ l
  · intro hg k hk _
    simp [bad_nil, cnt_nil]
  · intro l h ih hg k hk hb
    obtain ⟨hok, hg'⟩ := good_step h hg
    have hle := dec_le l h
    have hpos := dec_pos l
    by_cases h0 : k = 0
    · subst h0
      simp [bad_nil, cnt_nil, hg]
    by_cases hw : k < (dec l).2
    · exact absurd (dec_more h hok k (by omega) hw) (hb (by omega))
    have key := ih hg' (k - (dec l).2) (by rw [List.length_drop]; omega) (fun hlt => by
      rw [List.length_drop] at hlt
      have := hb (by omega)
      have e : (l.drop (dec l).2).getD (k - (dec l).2) 0 = l.getD k 0 := by
        simp only [List.getD_eq_getElem?_getD, List.getElem?_drop]
        rw [show (dec l).2 + (k - (dec l).2) = k by omega]
      rw [e]
      exact this)
    have e1 : l.take k = l.take (dec l).2 ++ (l.drop (dec l).2).take (k - (dec l).2) := by
      rw [← List.take_add]
      congr 1
      omega
    have e2 : (l.drop (dec l).2).drop (k - (dec l).2) = l.drop k := by
      rw [List.drop_drop]
      congr 1
      omega
    rw [e2] at key
    obtain ⟨k1, k2, k3⟩ := key
    have k4 := cnt_step h
    have c1 : l.take (dec l).2 ≠ [] := by
      intro e
      have := congrArg List.length e
      rw [List.length_take, Nat.min_eq_left hle, List.length_nil] at this
      omega
    have hl0 : (l.take (dec l).2).length = (dec l).2 := by rw [List.length_take]; omega
    have d1 := dec_of (t := l.take (dec l).2) h hok hl0 (fun i hi => by simp [List.getD_eq_getElem?_getD, hi])
    have one : badAt (l.take (dec l).2) = none ∧ cnt (l.take (dec l).2) = 1 := by
      have hl : (l.take (dec l).2).drop (dec l).2 = [] := List.drop_eq_nil_of_le (by rw [List.length_take]; omega)
      constructor
      · rw [bad_step c1 d1.2, d1.1, hl, bad_nil]; rfl
      · rw [cnt_step c1, d1.1, hl, cnt_nil]
    refine ⟨by rw [e1]; exact good_app one.1 k1, k2, ?_⟩
    rw [e1, (cnt_app _ _ one.1).1, one.2]
    omega

/-- What some numbers below 256 decode as. -/
theorem dec_nums (l : List Int) (x w : Nat) (hne : l ≠ []) (hw : l.length = w)
    (h : decodeN w ((l.getD 0 0).toNat % 256) ((l.getD 1 0).toNat % 256) ((l.getD 2 0).toNat % 256) ((l.getD 3 0).toNat % 256) = (x, w)) (hx : x ≠ 65533 ∨ w ≠ 1) :
    badAt (l.map fun x : Int => x.toNat.toUInt8) = none ∧ cnt (l.map fun x : Int => x.toNat.toUInt8) = 1 := by
  have hg : ∀ i, ((l.map fun x : Int => x.toNat.toUInt8).getD i 0).toNat = (l.getD i 0).toNat % 256 := fun i => by
    simp only [List.getD_eq_getElem?_getD, List.getElem?_map]
    cases l[i]? <;> simp
  have hd : dec (l.map fun x : Int => x.toNat.toUInt8) = (x, w) := by
    unfold dec
    rw [hg, hg, hg, hg, List.length_map, hw]
    exact h
  have hok : okc (l.map fun x : Int => x.toNat.toUInt8) = true := by
    unfold okc
    rw [hd]
    simp
    omega
  have hne' : (l.map fun x : Int => x.toNat.toUInt8) ≠ [] := by simpa using hne
  have hl : (l.map fun x : Int => x.toNat.toUInt8).drop (dec (l.map fun x : Int => x.toNat.toUInt8)).2 = [] := List.drop_eq_nil_of_le (by rw [hd, List.length_map]; simp only; omega)
  constructor
  · rw [bad_step hne' hok, hl, bad_nil]; rfl
  · rw [cnt_step hne', hl, cnt_nil]

/-- A character's bytes are one character. -/
theorem enc_one (r : Int) : badAt (encodeRune r) = none ∧ cnt (encodeRune r) = 1 := by
  unfold encodeRune
  by_cases h1 : 0 ≤ r ∧ r ≤ 127
  · rw [Lib.encodeRuneZ_one h1.1 h1.2]
    refine dec_nums _ r.toNat 1 (by simp) rfl ?_ (.inl (by omega))
    unfold decodeN
    have e : r.toNat % 256 = r.toNat := by omega
    simp [e]
    omega
  by_cases h2 : 128 ≤ r ∧ r ≤ 2047
  · rw [Lib.encodeRuneZ_two h2.1 h2.2]
    obtain ⟨n, rfl⟩ : ∃ n : Nat, r = n := ⟨r.toNat, by omega⟩
    refine dec_nums _ n 2 (by simp) rfl ?_ (.inr (by omega))
    have a0 : (192 + (n : Int) / 64).toNat % 256 = 192 + n / 64 := by omega
    have a1 : (128 + (n : Int) % 64).toNat % 256 = 128 + n % 64 := by omega
    simp only [List.getD_cons_zero, List.getD_cons_succ, List.getD_nil, a0, a1]
    unfold decodeN
    rw [if_neg (by omega), if_pos ⟨by omega, by omega, by omega⟩, if_pos (by omega)]
    congr 1
    omega
  by_cases h3 : (2048 ≤ r ∧ r < 55296) ∨ (57343 < r ∧ r ≤ 65535)
  · rw [Lib.encodeRuneZ_three h3]
    obtain ⟨n, rfl⟩ : ∃ n : Nat, r = n := ⟨r.toNat, by omega⟩
    refine dec_nums _ n 3 (by simp) rfl ?_ (.inr (by omega))
    have a0 : (224 + (n : Int) / 4096).toNat % 256 = 224 + n / 4096 := by omega
    have a1 : (128 + (n : Int) / 64 % 64).toNat % 256 = 128 + n / 64 % 64 := by omega
    have a2 : (128 + (n : Int) % 64).toNat % 256 = 128 + n % 64 := by omega
    simp only [List.getD_cons_zero, List.getD_cons_succ, List.getD_nil, a0, a1, a2]
    have ex : (224 + n / 4096) % 16 * 4096 + (128 + n / 64 % 64) % 64 * 64 + (128 + n % 64) % 64 = n := by omega
    unfold decodeN
    rw [if_neg (by omega), if_neg (by omega), if_pos ⟨by omega, ⟨by omega, by omega⟩, by omega, by omega⟩, ex, if_pos (by omega)]
  by_cases h4 : 65536 ≤ r ∧ r ≤ 1114111
  · rw [Lib.encodeRuneZ_four h4.1 h4.2]
    obtain ⟨n, rfl⟩ : ∃ n : Nat, r = n := ⟨r.toNat, by omega⟩
    refine dec_nums _ n 4 (by simp) rfl ?_ (.inr (by omega))
    have a0 : (240 + (n : Int) / 262144).toNat % 256 = 240 + n / 262144 := by omega
    have a1 : (128 + (n : Int) / 4096 % 64).toNat % 256 = 128 + n / 4096 % 64 := by omega
    have a2 : (128 + (n : Int) / 64 % 64).toNat % 256 = 128 + n / 64 % 64 := by omega
    have a3 : (128 + (n : Int) % 64).toNat % 256 = 128 + n % 64 := by omega
    simp only [List.getD_cons_zero, List.getD_cons_succ, a0, a1, a2, a3]
    have ex : (240 + n / 262144) % 8 * 262144 + (128 + n / 4096 % 64) % 64 * 4096 + (128 + n / 64 % 64) % 64 * 64 + (128 + n % 64) % 64 = n := by omega
    unfold decodeN
    rw [if_neg (by omega), if_neg (by omega), if_neg (by omega), if_pos ⟨by omega, ⟨by omega, by omega⟩, ⟨by omega, by omega⟩, by omega, by omega⟩, ex, if_pos (by omega)]
  rw [Lib.encodeRuneZ_bad (by omega)]
  exact dec_nums _ 65533 3 (by simp) rfl (by decide) (.inr (by omega))
/-- The bytes of some characters. -/
def encs (l : List Int) : List UInt8 := l.flatMap encodeRune
theorem enc_all : ∀ l : List Int, badAt (encs l) = none ∧ cnt (encs l) = l.length
  | [] => by simp [encs, bad_nil, cnt_nil]
  | r :: l => by
    have h1 := enc_one r
    have h2 := enc_all l
    have e : encs (r :: l) = encodeRune r ++ encs l := rfl
    rw [e, (cnt_app _ _ h1.1).1, good_app h1.1 h2.1, h1.2, h2.2]
    exact ⟨rfl, by simp; omega⟩
theorem encs_snoc (l : List Int) (r : Int) : encs (l ++ [r]) = encs l ++ encodeRune r := by simp [encs]
end Go.Proofs.YtifkjngclkklfaaGreatDoor
/- Plain helpers: equations of results, and that old memory stays. -/
namespace Go.Proofs.YtifkjngclkklfaaGreatDoor
open Go.RowKit

theorem rb {a b : Bool} (h : a = true ↔ b = true) : Ending.returned (.bool a) = .returned (.bool b) := by
  rw [Bool.eq_iff_iff.2 h]
theorem ri {k : IntKind} {a b : Int} (h : a = b) : Ending.returned (.int k a) = .returned (.int k b) := by rw [h]

abbrev sp (a b : Int) : Value := .agg #[.int .i64 a, .int .i64 b]

theorem bcell {B : Nat} {W w1 : World} (hb : Below B W w1) :
    (∀ b o, b < B → w1.cell? ⟨b, o, none⟩ = W.cell? ⟨b, o, none⟩) ∧ (∀ b o, b < B → w1.frozen? ⟨b, o, none⟩ = W.frozen? ⟨b, o, none⟩) :=
  ⟨fun b o h => hb.cell (p := ⟨b, o, none⟩) h, fun b o h => hb.frozen (p := ⟨b, o, none⟩) h⟩
theorem below_drewN {B : Nat} {a w : World} (h : Below B a w) (n : Nat) : Below B a (w.drewN n) := ⟨h.os, h.tape, h.output, h.size, h.block⟩

/-- The address A holds the whole numbers xs, one cell each, below block B; no address is asked for where there is none. -/
def Ints (w : World) (B : Nat) (A : Option Addr) (xs : List Int) : Prop :=
  0 < xs.length → ∃ b : Nat, A = some ⟨b, 0, none⟩ ∧ b < B ∧ ∀ j, j < xs.length → w.cell? ⟨b, j, none⟩ = some (.int .i64 (xs.getD j 0))
theorem Ints.below {w w' : World} {B : Nat} {A : Option Addr} {xs : List Int} (h : Ints w B A xs) (hb : Below B w w') : Ints w' B A xs := fun hn => by
  obtain ⟨b, e, hlt, hc⟩ := h hn
  exact ⟨b, e, hlt, fun j hj => (hb.cell (p := ⟨b, j, none⟩) hlt).trans (hc j hj)⟩
theorem Ints.more {w : World} {B B' : Nat} {A : Option Addr} {xs : List Int} (h : Ints w B A xs) (hB : B ≤ B') : Ints w B' A xs := fun hn => by
  obtain ⟨b, e, hlt, hc⟩ := h hn
  exact ⟨b, e, by omega, hc⟩
theorem Ints.alloc {w : World} {B : Nat} {A : Option Addr} {xs : List Int} (h : Ints w B A xs) (hB : B ≤ w.heap.size) (o : Obj) : Ints (w.alloc o) B A xs :=
  h.below ((Below.refl _ _).alloc hB o)
theorem Ints.of_own {w : World} {base e n c : Nat} {A : Option Addr} {xs : List Int} (h : w.ownsRow base e 1 (.slice A n c) n (xs.map (Value.int .i64))) (hn : n = xs.length) : Ints w w.heap.size A xs := fun h0 => by
  subst hn
  rcases h.2 with ⟨hv, hx⟩ | ⟨g, cap, cur, hv, _, hh, _⟩
  · simp at hx; subst hx; simp at h0
  · injection hv with hA _ _
    subst hA
    refine ⟨g, rfl, (h.lt g rfl).2, fun j hj => ?_⟩
    have := h.cells (g := g) rfl j (.int .i64 (xs.getD j 0)) (by simp [hj])
    simp only [Addr.add] at this
    by_cases hj0 : j = 0 <;> simpa [hj0] using this

/-- Block g is just these cells of type t, none of them frozen. -/
def RowB (w : World) (g : Nat) (t : TypeId) (cs : Array Value) : Prop := w.heap[g]? = some (.cells cs t (0, 0))
theorem RowB.cell {w : World} {g t : Nat} {cs : Array Value} (h : RowB w g t cs) (i : Nat) : w.cell? ⟨g, i, none⟩ = cs[i]? := cell_of_row w g i cs t (0, 0) h
theorem RowB.thaw {w : World} {g t : Nat} {cs : Array Value} (h : RowB w g t cs) (i : Nat) : w.frozen? ⟨g, i, none⟩ = false := by
  unfold RowB at h
  simp [World.frozen?, h]
theorem RowB.lt {w : World} {g t : Nat} {cs : Array Value} (h : RowB w g t cs) : g < w.heap.size := by
  rcases Nat.lt_or_ge g w.heap.size with h1 | h1
  · exact h1
  · unfold RowB at h; rw [Array.getElem?_eq_none h1] at h; cases h
theorem RowB.new (w : World) (t : TypeId) (cs : Array Value) : RowB (w.alloc (.cells cs t)) w.heap.size t cs := heap_alloc_new w _
theorem RowB.alloc {w : World} {g t : Nat} {cs : Array Value} (h : RowB w g t cs) (o : Obj) : RowB (w.alloc o) g t cs := (Below.heap_alloc w o g h.lt).trans h
theorem RowB.below {w w' : World} {g t B : Nat} {cs : Array Value} (h : RowB w g t cs) (hb : Below B w w') (hg : g < B) : RowB w' g t cs := (hb.block g hg).trans h
theorem RowB.grown {w w' : World} {g t : Nat} {cs : Array Value} {row : Option Nat} (h : RowB w g t cs) (hb : w.grownBy w' row) (hg : some g ≠ row) : RowB w' g t cs := (hb.block g h.lt hg).trans h
theorem RowB.far {w : World} {g t : Nat} {cs : Array Value} (h : RowB w g t cs) {p : Addr} (hp : g ≠ p.block) (u : Value) : RowB (w.setCell p u) g t cs := (Below.heap_setCell w p u g hp).trans h
theorem RowB.put {w : World} {g t : Nat} {cs : Array Value} (h : RowB w g t cs) (i : Nat) (u : Value) : RowB (w.setCell ⟨g, i, none⟩ u) g t (cs.setIfInBounds i u) := by
  unfold RowB at h ⊢
  simp [World.setCell, Array.getElem?_modify, h]
theorem own_form {w : World} {base e n : Nat} {v : Value} {xs : List Value} (h : w.ownsRow base e 1 v n xs) : ∃ A cap, v = .slice A n cap := by
  rcases h.2 with ⟨hv, hx⟩ | ⟨g, cap, cur, hv, _⟩
  · have := h.1; subst hx; simp at this; subst this; exact ⟨none, 0, hv⟩
  · exact ⟨_, cap, hv⟩
end Go.Proofs.YtifkjngclkklfaaGreatDoor
/- Plain mathematics: how the document's answer decodes a character, form by form. -/
namespace Go.Proofs.YtifkjngclkklfaaGreatDoor
open Go.Lib (decodeN)

/-- A byte's number. -/
def gb (s : ByteArray) (i : Nat) : Nat := (s.data.toList.getD i 0).toNat
theorem gb_lt (s : ByteArray) (i : Nat) : gb s i < 256 := UInt8.toNat_lt _
theorem gb_of (s : ByteArray) (i : Nat) (h : i < s.size) : (s[i]'h).toNat = gb s i := by
  unfold gb
  rw [List.getD_eq_getElem?_getD, List.getElem?_eq_getElem (by simpa using h)]
  rfl
/-- The bytes from a place on. -/
def tl (s : ByteArray) (i : Nat) : List UInt8 := s.data.toList.drop i
theorem tl_len (s : ByteArray) (i : Nat) : (tl s i).length = s.size - i := by simp [tl]
theorem tl_ne (s : ByteArray) (i : Nat) (h : i < s.size) : tl s i ≠ [] := by
  intro e
  have := tl_len s i
  rw [e] at this
  simp at this
  omega
theorem tl_end (s : ByteArray) (i : Nat) (h : s.size ≤ i) : tl s i = [] := List.eq_nil_of_length_eq_zero (by rw [tl_len]; omega)
theorem tl_get (s : ByteArray) (i j : Nat) : ((tl s i).getD j 0).toNat = gb s (i + j) := by
  unfold tl gb
  simp [List.getD_eq_getElem?_getD, List.getElem?_drop]
theorem tl_drop (s : ByteArray) (i j : Nat) : (tl s i).drop j = tl s (i + j) := by simp [tl, List.drop_drop]
theorem dec_tl (s : ByteArray) (i : Nat) : dec (tl s i) = decodeN (s.size - i) (gb s i) (gb s (i + 1)) (gb s (i + 2)) (gb s (i + 3)) := by
  unfold dec
  rw [tl_len, tl_get, tl_get, tl_get, tl_get, Nat.add_zero]
theorem dec_w (s : ByteArray) (i : Nat) (h : i < s.size) : 1 ≤ (dec (tl s i)).2 ∧ (dec (tl s i)).2 ≤ 4 ∧ i + (dec (tl s i)).2 ≤ s.size := by
  have h1 := dec_le _ (tl_ne s i h)
  rw [tl_len] at h1
  exact ⟨dec_pos _, dec_le4 _, by omega⟩

theorem dN_ascii (n b0 b1 b2 b3 : Nat) (h : b0 < 128) : decodeN n b0 b1 b2 b3 = (b0, 1) := by unfold decodeN; rw [if_pos h]
theorem dN_none (n b0 b1 b2 b3 : Nat) (h : 128 ≤ b0) (h' : b0 < 192 ∨ 248 ≤ b0) (h2 : b0 < 256) : decodeN n b0 b1 b2 b3 = (65533, 1) := by
  rcases decN_ways n b0 b1 b2 b3 with ⟨h, _⟩ | ⟨_, h⟩ | ⟨_, _, _, _, h⟩ | ⟨_, _, _, _, _, _, h⟩ | ⟨_, _, _, _, _, _, _, h⟩ <;> first | exact h | omega
theorem dN_two_bad (n b0 b1 b2 b3 : Nat) (h : 192 ≤ b0) (h' : b0 < 224) (hb : n < 2 ∨ b1 < 128 ∨ 192 ≤ b1) (hb1 : b1 < 256) : decodeN n b0 b1 b2 b3 = (65533, 1) := by
  rcases decN_ways n b0 b1 b2 b3 with ⟨h, _⟩ | ⟨_, h⟩ | ⟨_, _, _, _, h⟩ | ⟨_, _, _, _, _, _, h⟩ | ⟨_, _, _, _, _, _, _, h⟩ <;> first | exact h | omega
theorem dN_three_bad (n b0 b1 b2 b3 : Nat) (h : 224 ≤ b0) (h' : b0 < 240) (hb : n < 3 ∨ b1 < 128 ∨ 192 ≤ b1 ∨ b2 < 128 ∨ 192 ≤ b2) (hb1 : b1 < 256) (hb2 : b2 < 256) : decodeN n b0 b1 b2 b3 = (65533, 1) := by
  rcases decN_ways n b0 b1 b2 b3 with ⟨h, _⟩ | ⟨_, h⟩ | ⟨_, _, _, _, h⟩ | ⟨_, _, _, _, _, _, h⟩ | ⟨_, _, _, _, _, _, _, h⟩ <;> first | exact h | omega
theorem dN_four_bad (n b0 b1 b2 b3 : Nat) (h : 240 ≤ b0) (h' : b0 < 248) (hb : n < 4 ∨ b1 < 128 ∨ 192 ≤ b1 ∨ b2 < 128 ∨ 192 ≤ b2 ∨ b3 < 128 ∨ 192 ≤ b3) (hb1 : b1 < 256) (hb2 : b2 < 256) (hb3 : b3 < 256) : decodeN n b0 b1 b2 b3 = (65533, 1) := by
  rcases decN_ways n b0 b1 b2 b3 with ⟨h, _⟩ | ⟨_, h⟩ | ⟨_, _, _, _, h⟩ | ⟨_, _, _, _, _, _, h⟩ | ⟨_, _, _, _, _, _, _, h⟩ <;> first | exact h | omega
/-- Is a number one of a character in so many bytes? -/
def fits (n : Nat) (v : Int) : Bool := !(decide (v < (if n = 2 then 128 else if n = 3 then 2048 else 65536)) || decide (v > 1114111) || (decide (v ≥ 55296) && decide (v < 57344)))
theorem dN_two (n b0 b1 b2 b3 : Nat) (h : 192 ≤ b0) (h' : b0 < 224) (hn : 2 ≤ n) (c1 : 128 ≤ b1) (c1' : b1 < 192) :
    decodeN n b0 b1 b2 b3 = if fits 2 (((b0 : Int) - 192) * 64 + b1 - 128) = true then ((((b0 : Int) - 192) * 64 + b1 - 128).toNat, 2) else (65533, 1) := by
  by_cases hf : fits 2 (((b0 : Int) - 192) * 64 + b1 - 128) = true
  · rw [if_pos hf]
    simp [fits] at hf
    unfold decodeN
    rw [if_neg (by omega), if_pos ⟨by omega, by omega, by omega⟩, if_pos (by omega)]
    congr 1; omega
  · rw [if_neg hf]
    simp [fits] at hf
    unfold decodeN
    rw [if_neg (by omega), if_pos ⟨by omega, by omega, by omega⟩, if_neg (by omega)]
theorem dN_three (n b0 b1 b2 b3 : Nat) (h : 224 ≤ b0) (h' : b0 < 240) (hn : 3 ≤ n) (c1 : 128 ≤ b1) (c1' : b1 < 192) (c2 : 128 ≤ b2) (c2' : b2 < 192) :
    decodeN n b0 b1 b2 b3 = if fits 3 ((((b0 : Int) - 224) * 64 + b1 - 128) * 64 + b2 - 128) = true then (((((b0 : Int) - 224) * 64 + b1 - 128) * 64 + b2 - 128).toNat, 3) else (65533, 1) := by
  by_cases hf : fits 3 ((((b0 : Int) - 224) * 64 + b1 - 128) * 64 + b2 - 128) = true
  · rw [if_pos hf]
    simp [fits] at hf
    unfold decodeN
    rw [if_neg (by omega), if_neg (by omega), if_pos ⟨by omega, ⟨by omega, by omega⟩, by omega, by omega⟩, if_pos (by omega)]
    congr 1; omega
  · rw [if_neg hf]
    simp [fits] at hf
    unfold decodeN
    rw [if_neg (by omega), if_neg (by omega), if_pos ⟨by omega, ⟨by omega, by omega⟩, by omega, by omega⟩, if_neg (by omega)]
theorem dN_four (n b0 b1 b2 b3 : Nat) (h : 240 ≤ b0) (h' : b0 < 248) (hn : 4 ≤ n) (c1 : 128 ≤ b1) (c1' : b1 < 192) (c2 : 128 ≤ b2) (c2' : b2 < 192) (c3 : 128 ≤ b3) (c3' : b3 < 192) :
    decodeN n b0 b1 b2 b3 = if fits 4 (((((b0 : Int) - 240) * 64 + b1 - 128) * 64 + b2 - 128) * 64 + b3 - 128) = true then ((((((b0 : Int) - 240) * 64 + b1 - 128) * 64 + b2 - 128) * 64 + b3 - 128).toNat, 4) else (65533, 1) := by
  by_cases hf : fits 4 (((((b0 : Int) - 240) * 64 + b1 - 128) * 64 + b2 - 128) * 64 + b3 - 128) = true
  · rw [if_pos hf]
    simp [fits] at hf
    unfold decodeN
    rw [if_neg (by omega), if_neg (by omega), if_neg (by omega), if_pos ⟨by omega, ⟨by omega, by omega⟩, ⟨by omega, by omega⟩, by omega, by omega⟩, if_pos (by omega)]
    congr 1; omega
  · rw [if_neg hf]
    simp [fits] at hf
    unfold decodeN
    rw [if_neg (by omega), if_neg (by omega), if_neg (by omega), if_pos ⟨by omega, ⟨by omega, by omega⟩, ⟨by omega, by omega⟩, by omega, by omega⟩, if_neg (by omega)]

/-- The three answers, as values. -/
def trip (l : List UInt8) : Ending := .returned (.tuple #[.int .i64 (dec l).1, .int .i64 (dec l).2, .bool (okc l)])
theorem trip_bad {l : List UInt8} (h : dec l = (65533, 1)) : Ending.returned (.tuple #[.int .i64 65533, .int .i64 1, .bool false]) = trip l := by
  unfold trip okc
  rw [h]
  rfl
theorem trip_good {l : List UInt8} {x n : Nat} (h : dec l = (x, n)) (hn : 2 ≤ n ∨ x < 128) {v m : Int} (hv : v = x) (hm : m = n) : Ending.returned (.tuple #[.int .i64 v, .int .i64 m, .bool true]) = trip l := by
  subst hv hm
  unfold trip okc
  rw [h]
  have : decide ((x, n) = (65533, 1)) = false := by simp; omega
  rw [this]
  rfl
end Go.Proofs.YtifkjngclkklfaaGreatDoor
