/- Plain mathematics: strings as the language writes them. -/
import Derived.Lib.DecodeN
import Derived.Lib.RuneBytes
import Derived.WalkKit
import Derived.WalkLawsBesides
import Derived.WalkSpells
import Derived.BigQuiet
import Derived.Deep.QuietTactic
import Derived.Lib.Hide
import Derived.Test.YtnefnnoleeeedaaRows
import Derived.Deep.LoopGhost
import Derived.Lib.UnsafeStr
import Derived.Laws.IdiomStrings
import Derived.Laws.MakeOwn
import Derived.OwnWalk
import Derived.WideLaws
import Derived.Lib.ConvBytes
import Derived.Lib.ParseIntB
import Derived.Lib.Strings
import Derived.Lib.Bytealg
namespace Go.Proofs.Ytnefnnoleeeedaa

/-- The sign behind the backslash with which a byte is written. -/
def sg (b : UInt8) : UInt8 := if b = 10 then 110 else if b = 9 then 116 else if b = 34 then 34 else if b = 92 then 92 else 0
def sb (b : UInt8) : Bool := b == 10 || b == 9 || b == 34 || b == 92
/-- How a byte is written. -/
def esc (b : UInt8) : List UInt8 := if sb b = true then [92, sg b] else [b]
/-- What a sign behind a backslash means. -/
def mn (b : UInt8) : UInt8 := if b = 110 then 10 else if b = 116 then 9 else if b = 34 then 34 else if b = 92 then 92 else 0
def mb (b : UInt8) : Bool := b == 110 || b == 116 || b == 34 || b == 92
/-- What stands between the quotes, read; with a backslash just ahead, or not. -/
def um : List UInt8 → Bool → Option (List UInt8)
  | [], sl => if sl = true then none else some []
  | b :: t, true => if mb b = true then (um t false).map (mn b :: ·) else none
  | b :: t, false => if b = 92 then um t true else if b < 32 ∨ b = 34 then none else (um t false).map (b :: ·)
def unq (l : List UInt8) : Option (List UInt8) := if l.length < 2 ∨ l.getD 0 0 ≠ 34 ∨ l.getD (l.length - 1) 0 ≠ 34 then none else um ((l.drop 1).take (l.length - 2)) false

theorem flat_snoc (l : List UInt8) (b : UInt8) : (l ++ [b]).flatMap esc = l.flatMap esc ++ esc b := by simp
theorem flat_len : ∀ l : List UInt8, (l.flatMap esc).length ≤ 2 * l.length
  | [] => by simp
  | b :: l => by
    have := flat_len l
    simp only [List.flatMap_cons, List.length_append, List.length_cons]
    have h : (esc b).length ≤ 2 := by unfold esc; split <;> simp
    omega
theorem um_end (sl : Bool) : um [] sl = if sl = true then none else some [] := by rw [um]
theorem um_sign {b : UInt8} (t : List UInt8) (h : mb b = true) : um (b :: t) true = (um t false).map (mn b :: ·) := by rw [um, if_pos h]
theorem um_nosign {b : UInt8} (t : List UInt8) (h : mb b = false) : um (b :: t) true = none := by rw [um, if_neg (by simp [h])]
theorem um_slash (t : List UInt8) : um (92 :: t) false = um t true := by rw [um, if_pos rfl]
theorem um_low {b : UInt8} (t : List UInt8) (h0 : b ≠ 92) (h : b < 32 ∨ b = 34) : um (b :: t) false = none := by rw [um, if_neg h0, if_pos h]
theorem um_byte {b : UInt8} (t : List UInt8) (h0 : b ≠ 92) (h : ¬ (b < 32 ∨ b = 34)) : um (b :: t) false = (um t false).map (b :: ·) := by rw [um, if_neg h0, if_neg h]

/-- Does a text have a byte below 32 but a tab and a line feed? -/
def low (l : List UInt8) : Bool := l.any fun b => decide (b < 32) && (b != 9) && (b != 10)
theorem um_pre {W O : List UInt8} {sl : Bool} {m : UInt8} {t : List UInt8} {b : UInt8} (h : um W false = (um (b :: t) sl).map (O ++ ·)) (he : um (b :: t) sl = (um t false).map (m :: ·)) : um W false = (um t false).map ((O ++ [m]) ++ ·) := by
  rw [h, he, Option.map_map]
  congr 1
  funext x
  simp
end Go.Proofs.Ytnefnnoleeeedaa

/- Plain mathematics: tokens of lists of bytes. -/
namespace Go.Proofs.Ytnefnnoleeeedaa

def letN (n : Int) : Bool := decide ((97 ≤ n ∧ n ≤ 122) ∨ (65 ≤ n ∧ n ≤ 90) ∨ n = 95)
def digN (n : Int) : Bool := decide (48 ≤ n ∧ n ≤ 57)
def blkN (n : Int) : Bool := decide (n = 32 ∨ n = 9 ∨ n = 10 ∨ n = 13)
def wdN (n : Int) : Bool := letN n || digN n
/-- Is one in a comment behind a byte? -/
def cmt (c : Bool) (n : Int) : Bool := if n = 10 then false else if n = 35 then true else c
/-- Is the next sign meant by a backslash? -/
def sls (c : Bool) (n : Int) : Bool := decide (n = 92) && !c

/-- How many bytes a machine goes through: it has a state; at each byte it turns it, and says whether it goes on. -/
def runM (st : Bool → Int → Bool) (go : Bool → Int → Bool) : Bool → List UInt8 → Nat
  | _, [] => 0
  | c, b :: t => if go c b.toNat = true then 1 + runM st go (st c b.toNat) t else 0
theorem runM_le (st go : Bool → Int → Bool) : ∀ (c : Bool) (l : List UInt8), runM st go c l ≤ l.length
  | _, [] => Nat.le_refl _
  | c, b :: t => by
    have := runM_le st go (st c b.toNat) t
    unfold runM
    split <;> simp <;> omega
theorem runM_go {st go : Bool → Int → Bool} {c : Bool} {b : UInt8} {t : List UInt8} (h : go c b.toNat = true) : runM st go c (b :: t) = 1 + runM st go (st c b.toNat) t := by rw [runM, if_pos h]
theorem runM_stop {st go : Bool → Int → Bool} {c : Bool} {b : UInt8} {t : List UInt8} (h : go c b.toNat = false) : runM st go c (b :: t) = 0 := by rw [runM, if_neg (by simp [h])]

def wSt (c : Bool) (_n : Int) : Bool := c
def wGo (_c : Bool) (n : Int) : Bool := wdN n
def lGo (c : Bool) (n : Int) : Bool := cmt c n || blkN n
def qGo (c : Bool) (n : Int) : Bool := decide (n ≠ 34) || c
def wLen (l : List UInt8) : Nat := runM wSt wGo false l
def lLen (l : List UInt8) : Nat := runM cmt lGo false l
def qLen (l : List UInt8) : Nat := runM sls qGo false l
end Go.Proofs.Ytnefnnoleeeedaa

/- Plain mathematics: UTF-8 over lists of bytes: the character with which bytes begin, where they stop being UTF-8, how many characters they are. -/
namespace Go.Proofs.Ytnefnnoleeeedaa
open Go.Lib (decodeN encodeRune encodeRuneZ)

theorem len_pos {l : List UInt8} (h : l ≠ []) : 0 < l.length := by cases l <;> simp_all
/-- The character with which some bytes begin, and how many bytes it has. -/
def dec (l : List UInt8) : Nat × Nat := decodeN l.length (l.getD 0 0).toNat (l.getD 1 0).toNat (l.getD 2 0).toNat (l.getD 3 0).toNat
/-- Do they begin with a character? -/
def okc (l : List UInt8) : Bool := !(decide (dec l = (65533, 1)))

/-- The five ways of decoding. -/
theorem decN_ways (n b0 b1 b2 b3 : Nat) :
    (decodeN n b0 b1 b2 b3 = (65533, 1) ∧ 128 ≤ b0) ∨ (b0 < 128 ∧ decodeN n b0 b1 b2 b3 = (b0, 1)) ∨
    (b0 / 32 = 6 ∧ 1 < n ∧ b1 / 64 = 2 ∧ 128 ≤ b0 % 32 * 64 + b1 % 64 ∧ decodeN n b0 b1 b2 b3 = (b0 % 32 * 64 + b1 % 64, 2)) ∨
    (b0 / 16 = 14 ∧ 2 < n ∧ b1 / 64 = 2 ∧ b2 / 64 = 2 ∧ 2048 ≤ b0 % 16 * 4096 + b1 % 64 * 64 + b2 % 64 ∧ ¬ (55296 ≤ b0 % 16 * 4096 + b1 % 64 * 64 + b2 % 64 ∧ b0 % 16 * 4096 + b1 % 64 * 64 + b2 % 64 < 57344) ∧
      decodeN n b0 b1 b2 b3 = (b0 % 16 * 4096 + b1 % 64 * 64 + b2 % 64, 3)) ∨
    (b0 / 8 = 30 ∧ 3 < n ∧ b1 / 64 = 2 ∧ b2 / 64 = 2 ∧ b3 / 64 = 2 ∧ 65536 ≤ b0 % 8 * 262144 + b1 % 64 * 4096 + b2 % 64 * 64 + b3 % 64 ∧ b0 % 8 * 262144 + b1 % 64 * 4096 + b2 % 64 * 64 + b3 % 64 ≤ 1114111 ∧
      decodeN n b0 b1 b2 b3 = (b0 % 8 * 262144 + b1 % 64 * 4096 + b2 % 64 * 64 + b3 % 64, 4)) := by
  unfold decodeN
  by_cases h0 : b0 < 128
  · right; left; exact ⟨h0, by rw [if_pos h0]⟩
  rw [if_neg h0]
  by_cases h1 : b0 / 32 = 6 ∧ (1 < n ∧ b1 / 64 = 2)
  · rw [if_pos h1]
    by_cases g : b0 % 32 * 64 + b1 % 64 ≥ 128
    · rw [if_pos g]; right; right; left; exact ⟨h1.1, h1.2.1, h1.2.2, g, rfl⟩
    · rw [if_neg g]; left; exact ⟨rfl, by omega⟩
  rw [if_neg h1]
  by_cases h2 : b0 / 16 = 14 ∧ (1 < n ∧ b1 / 64 = 2) ∧ (2 < n ∧ b2 / 64 = 2)
  · rw [if_pos h2]
    by_cases g : b0 % 16 * 4096 + b1 % 64 * 64 + b2 % 64 ≥ 2048 ∧ (b0 % 16 * 4096 + b1 % 64 * 64 + b2 % 64 < 55296 ∨ (57344 ≤ b0 % 16 * 4096 + b1 % 64 * 64 + b2 % 64 ∧ b0 % 16 * 4096 + b1 % 64 * 64 + b2 % 64 ≤ 1114111))
    · rw [if_pos g]; right; right; right; left; exact ⟨h2.1, h2.2.2.1, h2.2.1.2, h2.2.2.2, g.1, by omega, rfl⟩
    · rw [if_neg g]; left; exact ⟨rfl, by omega⟩
  rw [if_neg h2]
  by_cases h3 : b0 / 8 = 30 ∧ (1 < n ∧ b1 / 64 = 2) ∧ (2 < n ∧ b2 / 64 = 2) ∧ (3 < n ∧ b3 / 64 = 2)
  · rw [if_pos h3]
    by_cases g : b0 % 8 * 262144 + b1 % 64 * 4096 + b2 % 64 * 64 + b3 % 64 ≥ 65536 ∧ (b0 % 8 * 262144 + b1 % 64 * 4096 + b2 % 64 * 64 + b3 % 64 < 55296 ∨ (57344 ≤ b0 % 8 * 262144 + b1 % 64 * 4096 + b2 % 64 * 64 + b3 % 64 ∧ b0 % 8 * 262144 + b1 % 64 * 4096 + b2 % 64 * 64 + b3 % 64 ≤ 1114111))
    · rw [if_pos g]; right; right; right; right; exact ⟨h3.1, h3.2.2.2.1, h3.2.1.2, h3.2.2.1.2, h3.2.2.2.2, g.1, by omega, rfl⟩
    · rw [if_neg g]; left; exact ⟨rfl, by omega⟩
  rw [if_neg h3]
  left; exact ⟨rfl, by omega⟩

theorem decN_pos (n b0 b1 b2 b3 : Nat) : 1 ≤ (decodeN n b0 b1 b2 b3).2 ∧ (decodeN n b0 b1 b2 b3).2 ≤ 4 := by
  rcases decN_ways n b0 b1 b2 b3 with ⟨h, _⟩ | ⟨_, h⟩ | ⟨_, _, _, _, h⟩ | ⟨_, _, _, _, _, _, h⟩ | ⟨_, _, _, _, _, _, _, h⟩ <;> rw [h] <;> simp
theorem decN_le (n b0 b1 b2 b3 : Nat) (hn : 1 ≤ n) : (decodeN n b0 b1 b2 b3).2 ≤ n := by
  rcases decN_ways n b0 b1 b2 b3 with ⟨h, _⟩ | ⟨_, h⟩ | ⟨_, _, _, _, h⟩ | ⟨_, _, _, _, _, _, h⟩ | ⟨_, _, _, _, _, _, _, h⟩ <;> rw [h] <;> simp <;> omega
theorem dec_pos (l : List UInt8) : 1 ≤ (dec l).2 := (decN_pos _ _ _ _ _).1
theorem dec_le4 (l : List UInt8) : (dec l).2 ≤ 4 := (decN_pos _ _ _ _ _).2
theorem dec_le (l : List UInt8) (h : l ≠ []) : (dec l).2 ≤ l.length := decN_le _ _ _ _ _ (len_pos h)
/-- Where bytes stop being UTF-8. -/
def badAt (l : List UInt8) : Option Nat := if _h : l = [] then none else if okc l = true then (badAt (l.drop (dec l).2)).map (· + (dec l).2) else some 0
termination_by l.length
decreasing_by
  have := dec_pos l
  have := len_pos _h
  simp
  omega
def badI (l : List UInt8) : Int := match badAt l with | none => -1 | some k => k

theorem bad_nil : badAt [] = none := by rw [badAt]; simp
theorem bad_step {l : List UInt8} (h : l ≠ []) (hok : okc l = true) : badAt l = (badAt (l.drop (dec l).2)).map (· + (dec l).2) := by rw [badAt]; simp [h, hok]
theorem bad_here {l : List UInt8} (h : l ≠ []) (hok : okc l = false) : badAt l = some 0 := by rw [badAt]; simp [h, hok]
theorem badI_none {l : List UInt8} (h : badAt l = none) : badI l = -1 := by unfold badI; rw [h]

end Go.Proofs.Ytnefnnoleeeedaa

/- Plain helpers: equations of results, and that old memory stays. -/
namespace Go.Proofs.Ytnefnnoleeeedaa
open Go.RowKit

theorem rb {a b : Bool} (h : a = true ↔ b = true) : Ending.returned (.bool a) = .returned (.bool b) := by
  rw [Bool.eq_iff_iff.2 h]
theorem ri {k : IntKind} {a b : Int} (h : a = b) : Ending.returned (.int k a) = .returned (.int k b) := by rw [h]

theorem below_drewN {B : Nat} {a w : World} (h : Below B a w) (n : Nat) : Below B a (w.drewN n) := ⟨h.os, h.tape, h.output, h.size, h.block⟩

/-- The address A holds the whole numbers xs, one cell each, below block B; no address is asked for where there is none. -/
def Ints (w : World) (B : Nat) (A : Option Addr) (xs : List Int) : Prop :=
  0 < xs.length → ∃ b : Nat, A = some ⟨b, 0, none⟩ ∧ b < B ∧ ∀ j, j < xs.length → w.cell? ⟨b, j, none⟩ = some (.int .i64 (xs.getD j 0))
theorem Ints.below {w w' : World} {B : Nat} {A : Option Addr} {xs : List Int} (h : Ints w B A xs) (hb : Below B w w') : Ints w' B A xs := fun hn => by
  obtain ⟨b, e, hlt, hc⟩ := h hn
  exact ⟨b, e, hlt, fun j hj => (hb.cell (p := ⟨b, j, none⟩) hlt).trans (hc j hj)⟩
theorem Ints.more {w : World} {B B' : Nat} {A : Option Addr} {xs : List Int} (h : Ints w B A xs) (hB : B ≤ B') : Ints w B' A xs := fun hn => by
  obtain ⟨b, e, hlt, hc⟩ := h hn
  exact ⟨b, e, by omega, hc⟩
theorem Ints.alloc {w : World} {B : Nat} {A : Option Addr} {xs : List Int} (h : Ints w B A xs) (hB : B ≤ w.heap.size) (o : Obj) : Ints (w.alloc o) B A xs :=
  h.below ((Below.refl _ _).alloc hB o)
theorem Ints.of_own {w : World} {base e n c : Nat} {A : Option Addr} {xs : List Int} (h : w.ownsRow base e 1 (.slice A n c) n (xs.map (Value.int .i64))) (hn : n = xs.length) : Ints w w.heap.size A xs := fun h0 => by
  subst hn
  rcases h.2 with ⟨hv, hx⟩ | ⟨g, cap, cur, hv, _, hh, _⟩
  · simp at hx; subst hx; simp at h0
  · injection hv with hA _ _
    subst hA
    refine ⟨g, rfl, (h.lt g rfl).2, fun j hj => ?_⟩
    have := h.cells (g := g) rfl j (.int .i64 (xs.getD j 0)) (by simp [hj])
    simp only [Addr.add] at this
    by_cases hj0 : j = 0 <;> simpa [hj0] using this

/-- Block g is just these cells of type t, none of them frozen. -/
def RowB (w : World) (g : Nat) (t : TypeId) (cs : Array Value) : Prop := w.heap[g]? = some (.cells cs t (0, 0))
theorem RowB.cell {w : World} {g t : Nat} {cs : Array Value} (h : RowB w g t cs) (i : Nat) : w.cell? ⟨g, i, none⟩ = cs[i]? := cell_of_row w g i cs t (0, 0) h
theorem RowB.thaw {w : World} {g t : Nat} {cs : Array Value} (h : RowB w g t cs) (i : Nat) : w.frozen? ⟨g, i, none⟩ = false := by
  unfold RowB at h
  simp [World.frozen?, h]
theorem RowB.lt {w : World} {g t : Nat} {cs : Array Value} (h : RowB w g t cs) : g < w.heap.size := by
  rcases Nat.lt_or_ge g w.heap.size with h1 | h1
  · exact h1
  · unfold RowB at h; rw [Array.getElem?_eq_none h1] at h; cases h
theorem RowB.new (w : World) (t : TypeId) (cs : Array Value) : RowB (w.alloc (.cells cs t)) w.heap.size t cs := heap_alloc_new w _
theorem RowB.alloc {w : World} {g t : Nat} {cs : Array Value} (h : RowB w g t cs) (o : Obj) : RowB (w.alloc o) g t cs := (Below.heap_alloc w o g h.lt).trans h
theorem RowB.below {w w' : World} {g t B : Nat} {cs : Array Value} (h : RowB w g t cs) (hb : Below B w w') (hg : g < B) : RowB w' g t cs := (hb.block g hg).trans h
theorem RowB.grown {w w' : World} {g t : Nat} {cs : Array Value} {row : Option Nat} (h : RowB w g t cs) (hb : w.grownBy w' row) (hg : some g ≠ row) : RowB w' g t cs := (hb.block g h.lt hg).trans h
theorem RowB.far {w : World} {g t : Nat} {cs : Array Value} (h : RowB w g t cs) {p : Addr} (hp : g ≠ p.block) (u : Value) : RowB (w.setCell p u) g t cs := (Below.heap_setCell w p u g hp).trans h
theorem RowB.put {w : World} {g t : Nat} {cs : Array Value} (h : RowB w g t cs) (i : Nat) (u : Value) : RowB (w.setCell ⟨g, i, none⟩ u) g t (cs.setIfInBounds i u) := by
  unfold RowB at h ⊢
  simp [World.setCell, Array.getElem?_modify, h]
end Go.Proofs.Ytnefnnoleeeedaa

/- Plain mathematics: how the document's answer decodes a character, form by form. -/
namespace Go.Proofs.Ytnefnnoleeeedaa
open Go.Lib (decodeN)

/-- A byte's number. -/
def gb (s : ByteArray) (i : Nat) : Nat := (s.data.toList.getD i 0).toNat
theorem gb_lt (s : ByteArray) (i : Nat) : gb s i < 256 := UInt8.toNat_lt _
theorem gb_of (s : ByteArray) (i : Nat) (h : i < s.size) : (s[i]'h).toNat = gb s i := by
  unfold gb
  rw [List.getD_eq_getElem?_getD, List.getElem?_eq_getElem (by simpa using h)]
  rfl
/-- The bytes from a place on. -/
def tl (s : ByteArray) (i : Nat) : List UInt8 := s.data.toList.drop i
theorem tl_len (s : ByteArray) (i : Nat) : (tl s i).length = s.size - i := by simp [tl]
theorem tl_ne (s : ByteArray) (i : Nat) (h : i < s.size) : tl s i ≠ [] := by
  intro e
  have := tl_len s i
  rw [e] at this
  simp at this
  omega
theorem tl_end (s : ByteArray) (i : Nat) (h : s.size ≤ i) : tl s i = [] := List.eq_nil_of_length_eq_zero (by rw [tl_len]; omega)
theorem tl_get (s : ByteArray) (i j : Nat) : ((tl s i).getD j 0).toNat = gb s (i + j) := by
  unfold tl gb
  simp [List.getD_eq_getElem?_getD, List.getElem?_drop]
theorem tl_drop (s : ByteArray) (i j : Nat) : (tl s i).drop j = tl s (i + j) := by simp [tl, List.drop_drop]
theorem dec_tl (s : ByteArray) (i : Nat) : dec (tl s i) = decodeN (s.size - i) (gb s i) (gb s (i + 1)) (gb s (i + 2)) (gb s (i + 3)) := by
  unfold dec
  rw [tl_len, tl_get, tl_get, tl_get, tl_get, Nat.add_zero]
theorem dec_w (s : ByteArray) (i : Nat) (h : i < s.size) : 1 ≤ (dec (tl s i)).2 ∧ (dec (tl s i)).2 ≤ 4 ∧ i + (dec (tl s i)).2 ≤ s.size := by
  have h1 := dec_le _ (tl_ne s i h)
  rw [tl_len] at h1
  exact ⟨dec_pos _, dec_le4 _, by omega⟩

theorem dN_ascii (n b0 b1 b2 b3 : Nat) (h : b0 < 128) : decodeN n b0 b1 b2 b3 = (b0, 1) := by unfold decodeN; rw [if_pos h]
theorem dN_none (n b0 b1 b2 b3 : Nat) (h : 128 ≤ b0) (h' : b0 < 192 ∨ 248 ≤ b0) (h2 : b0 < 256) : decodeN n b0 b1 b2 b3 = (65533, 1) := by
  rcases decN_ways n b0 b1 b2 b3 with ⟨h, _⟩ | ⟨_, h⟩ | ⟨_, _, _, _, h⟩ | ⟨_, _, _, _, _, _, h⟩ | ⟨_, _, _, _, _, _, _, h⟩ <;> first | exact h | omega
theorem dN_two_bad (n b0 b1 b2 b3 : Nat) (h : 192 ≤ b0) (h' : b0 < 224) (hb : n < 2 ∨ b1 < 128 ∨ 192 ≤ b1) (hb1 : b1 < 256) : decodeN n b0 b1 b2 b3 = (65533, 1) := by
  rcases decN_ways n b0 b1 b2 b3 with ⟨h, _⟩ | ⟨_, h⟩ | ⟨_, _, _, _, h⟩ | ⟨_, _, _, _, _, _, h⟩ | ⟨_, _, _, _, _, _, _, h⟩ <;> first | exact h | omega
theorem dN_three_bad (n b0 b1 b2 b3 : Nat) (h : 224 ≤ b0) (h' : b0 < 240) (hb : n < 3 ∨ b1 < 128 ∨ 192 ≤ b1 ∨ b2 < 128 ∨ 192 ≤ b2) (hb1 : b1 < 256) (hb2 : b2 < 256) : decodeN n b0 b1 b2 b3 = (65533, 1) := by
  rcases decN_ways n b0 b1 b2 b3 with ⟨h, _⟩ | ⟨_, h⟩ | ⟨_, _, _, _, h⟩ | ⟨_, _, _, _, _, _, h⟩ | ⟨_, _, _, _, _, _, _, h⟩ <;> first | exact h | omega
theorem dN_four_bad (n b0 b1 b2 b3 : Nat) (h : 240 ≤ b0) (h' : b0 < 248) (hb : n < 4 ∨ b1 < 128 ∨ 192 ≤ b1 ∨ b2 < 128 ∨ 192 ≤ b2 ∨ b3 < 128 ∨ 192 ≤ b3) (hb1 : b1 < 256) (hb2 : b2 < 256) (hb3 : b3 < 256) : decodeN n b0 b1 b2 b3 = (65533, 1) := by
  rcases decN_ways n b0 b1 b2 b3 with ⟨h, _⟩ | ⟨_, h⟩ | ⟨_, _, _, _, h⟩ | ⟨_, _, _, _, _, _, h⟩ | ⟨_, _, _, _, _, _, _, h⟩ <;> first | exact h | omega
/-- Is a number one of a character in so many bytes? -/
def fits (n : Nat) (v : Int) : Bool := !(decide (v < (if n = 2 then 128 else if n = 3 then 2048 else 65536)) || decide (v > 1114111) || (decide (v ≥ 55296) && decide (v < 57344)))
theorem dN_two (n b0 b1 b2 b3 : Nat) (h : 192 ≤ b0) (h' : b0 < 224) (hn : 2 ≤ n) (c1 : 128 ≤ b1) (c1' : b1 < 192) :
    decodeN n b0 b1 b2 b3 = if fits 2 (((b0 : Int) - 192) * 64 + b1 - 128) = true then ((((b0 : Int) - 192) * 64 + b1 - 128).toNat, 2) else (65533, 1) := by
  by_cases hf : fits 2 (((b0 : Int) - 192) * 64 + b1 - 128) = true
  · rw [if_pos hf]
    simp [fits] at hf
    unfold decodeN
    rw [if_neg (by omega), if_pos ⟨by omega, by omega, by omega⟩, if_pos (by omega)]
    congr 1; omega
  · rw [if_neg hf]
    simp [fits] at hf
    unfold decodeN
    rw [if_neg (by omega), if_pos ⟨by omega, by omega, by omega⟩, if_neg (by omega)]
theorem dN_three (n b0 b1 b2 b3 : Nat) (h : 224 ≤ b0) (h' : b0 < 240) (hn : 3 ≤ n) (c1 : 128 ≤ b1) (c1' : b1 < 192) (c2 : 128 ≤ b2) (c2' : b2 < 192) :
    decodeN n b0 b1 b2 b3 = if fits 3 ((((b0 : Int) - 224) * 64 + b1 - 128) * 64 + b2 - 128) = true then (((((b0 : Int) - 224) * 64 + b1 - 128) * 64 + b2 - 128).toNat, 3) else (65533, 1) := by
  by_cases hf : fits 3 ((((b0 : Int) - 224) * 64 + b1 - 128) * 64 + b2 - 128) = true
  · rw [if_pos hf]
    simp [fits] at hf
    unfold decodeN
    rw [if_neg (by omega), if_neg (by omega), if_pos ⟨by omega, ⟨by omega, by omega⟩, by omega, by omega⟩, if_pos (by omega)]
    congr 1; omega
  · rw [if_neg hf]
    simp [fits] at hf
    unfold decodeN
    rw [if_neg (by omega), if_neg (by omega), if_pos ⟨by omega, ⟨by omega, by omega⟩, by omega, by omega⟩, if_neg (by omega)]
theorem dN_four (n b0 b1 b2 b3 : Nat) (h : 240 ≤ b0) (h' : b0 < 248) (hn : 4 ≤ n) (c1 : 128 ≤ b1) (c1' : b1 < 192) (c2 : 128 ≤ b2) (c2' : b2 < 192) (c3 : 128 ≤ b3) (c3' : b3 < 192) :
    decodeN n b0 b1 b2 b3 = if fits 4 (((((b0 : Int) - 240) * 64 + b1 - 128) * 64 + b2 - 128) * 64 + b3 - 128) = true then ((((((b0 : Int) - 240) * 64 + b1 - 128) * 64 + b2 - 128) * 64 + b3 - 128).toNat, 4) else (65533, 1) := by
  by_cases hf : fits 4 (((((b0 : Int) - 240) * 64 + b1 - 128) * 64 + b2 - 128) * 64 + b3 - 128) = true
  · rw [if_pos hf]
    simp [fits] at hf
    unfold decodeN
    rw [if_neg (by omega), if_neg (by omega), if_neg (by omega), if_pos ⟨by omega, ⟨by omega, by omega⟩, ⟨by omega, by omega⟩, by omega, by omega⟩, if_pos (by omega)]
    congr 1; omega
  · rw [if_neg hf]
    simp [fits] at hf
    unfold decodeN
    rw [if_neg (by omega), if_neg (by omega), if_neg (by omega), if_pos ⟨by omega, ⟨by omega, by omega⟩, ⟨by omega, by omega⟩, by omega, by omega⟩, if_neg (by omega)]

/-- The three answers, as values. -/
def trip (l : List UInt8) : Ending := .returned (.tuple #[.int .i64 (dec l).1, .int .i64 (dec l).2, .bool (okc l)])
theorem trip_bad {l : List UInt8} (h : dec l = (65533, 1)) : Ending.returned (.tuple #[.int .i64 65533, .int .i64 1, .bool false]) = trip l := by
  unfold trip okc
  rw [h]
  rfl
theorem trip_good {l : List UInt8} {x n : Nat} (h : dec l = (x, n)) (hn : 2 ≤ n ∨ x < 128) {v m : Int} (hv : v = x) (hm : m = n) : Ending.returned (.tuple #[.int .i64 v, .int .i64 m, .bool true]) = trip l := by
  subst hv hm
  unfold trip okc
  rw [h]
  have : decide ((x, n) = (65533, 1)) = false := by simp; omega
  rw [this]
  rfl
end Go.Proofs.Ytnefnnoleeeedaa

/- Contracts: the document's strings, written and read. -/
namespace Go.Proofs.Ytnefnnoleeeedaa
open Go.RowKit

theorem app_list (a b : ByteArray) : (a ++ b).data.toList = a.data.toList ++ b.data.toList := by rw [ByteArray.data_append, Array.toList_append]
theorem len_list (a : ByteArray) : a.data.toList.length = a.size := by simp
theorem take_next (s : ByteArray) (k : Nat) (h : k < s.size) : s.data.toList.take (k + 1) = s.data.toList.take k ++ [s[k]] := by
  rw [List.take_succ_eq_append_getElem (by simpa using h)]; rfl
theorem ext_one (s : ByteArray) (k : Nat) (h : k < s.size) : (s.extract k (k + 1)).data.toList = [s[k]] := by
  rw [ByteArray.data_extract, Array.toList_extract, List.extract_eq_take_drop, List.drop_eq_getElem_cons (by simpa using h)]
  simp
  rfl
theorem u8_eq {b : UInt8} {n : Nat} (hn : n < 256) (h : b.toNat = n) : b = UInt8.ofNat n := by
  apply UInt8.toNat_inj.1
  rw [h, UInt8.toNat_ofNat']
  omega

/-- How far a text has been written. -/
def Wr (s : ByteArray) (k : Nat) (O : ByteArray) : Prop := O.data.toList = 34 :: (s.data.toList.take k).flatMap esc
theorem Wr.next {s O X : ByteArray} {k : Nat} (h : Wr s k O) (hk : k < s.size) (hx : X.data.toList = esc s[k]) : Wr s (k + 1) (O ++ X) := by
  unfold Wr at h ⊢
  rw [app_list, h, hx, take_next s k hk, flat_snoc]
  rfl
theorem Wr.size {s O : ByteArray} {k : Nat} (h : Wr s k O) (hk : k ≤ s.size) : O.size ≤ 2 * k + 1 := by
  have h1 := congrArg List.length h
  have h2 := flat_len (s.data.toList.take k)
  rw [List.length_take, len_list] at h2
  rw [len_list, List.length_cons] at h1
  omega

end Go.Proofs.Ytnefnnoleeeedaa
/- Contracts: the document's strings, read. -/
namespace Go.Proofs.Ytnefnnoleeeedaa
open Go.RowKit

/-- How far a string has been read. -/
def Rd (W : List UInt8) (I O : ByteArray) : Prop := um W false = (um I.data.toList false).map (O.data.toList ++ ·)
theorem cons_one (I : ByteArray) (h : 0 < I.size) : I.data.toList = I[0] :: (I.extract 1 I.size).data.toList := by
  have e : (I.extract 1 I.size).data.toList = I.data.toList.drop 1 := by
    rw [ByteArray.data_extract, Array.toList_extract, List.extract_eq_take_drop]
    exact List.take_of_length_le (by simp)
  rw [e]
  have h' : 0 < I.data.toList.length := by simpa using h
  conv => lhs; rw [← List.drop_zero (l := I.data.toList), List.drop_eq_getElem_cons h']
  rfl
theorem cons_two (I : ByteArray) (h : 1 < I.size) : I.data.toList = I[0] :: I[1] :: (I.extract 2 I.size).data.toList := by
  have e : (I.extract 2 I.size).data.toList = I.data.toList.drop 2 := by
    rw [ByteArray.data_extract, Array.toList_extract, List.extract_eq_take_drop]
    exact List.take_of_length_le (by simp)
  rw [e]
  have h' : 0 < I.data.toList.length := by have : 0 < I.size := by omega
                                           simpa using this
  have h'' : 1 < I.data.toList.length := by simpa using h
  conv => lhs; rw [← List.drop_zero (l := I.data.toList), List.drop_eq_getElem_cons h', Nat.zero_add, List.drop_eq_getElem_cons h'']
  rfl
theorem rest_size (I : ByteArray) (k : Nat) : (I.extract k I.size).size = I.size - k := by rw [ByteArray.size_extract]; omega
theorem Rd.low {W : List UInt8} {I O : ByteArray} (h : Rd W I O) (h0 : 0 < I.size) (hb : I[0].toNat < 32 ∨ I[0].toNat = 34) : um W false = none := by
  unfold Rd at h
  rw [h, cons_one I h0, um_low _ (by rw [ne_eq, ← UInt8.toNat_inj]; intro e; rw [e] at hb; revert hb; decide) (by rw [UInt8.lt_iff_toNat_lt, ← UInt8.toNat_inj]; exact hb)]
  rfl
theorem Rd.byte {W : List UInt8} {I O : ByteArray} (h : Rd W I O) (h0 : 0 < I.size) (hb : I[0].toNat ≠ 92) (hc : ¬ (I[0].toNat < 32 ∨ I[0].toNat = 34)) : Rd W (I.extract 1 I.size) (O ++ I.extract 0 1) := by
  unfold Rd at h ⊢
  have e : (I.extract 0 1).data.toList = [I[0]] := ext_one I 0 h0
  rw [app_list, e]
  refine um_pre (b := I[0]) (sl := false) ?_ (um_byte _ (by rw [ne_eq, ← UInt8.toNat_inj]; exact hb) (by rw [UInt8.lt_iff_toNat_lt, ← UInt8.toNat_inj]; exact hc))
  rw [h, ← cons_one I h0]
theorem Rd.short {W : List UInt8} {I O : ByteArray} (h : Rd W I O) (h0 : I.size = 1) (hb : I[0].toNat = 92) : um W false = none := by
  unfold Rd at h
  have e : (I.extract 1 I.size).data.toList = [] := List.eq_nil_of_length_eq_zero (by rw [len_list, rest_size]; omega)
  rw [h, cons_one I (by omega), e, u8_eq (by decide) hb]
  rfl
theorem Rd.sign {W : List UInt8} {I O : ByteArray} (h : Rd W I O) (h0 : 1 < I.size) (hb : I[0].toNat = 92) (hs : mb I[1] = true) {X : ByteArray} (hx : X.data.toList = [mn I[1]]) : Rd W (I.extract 2 I.size) (O ++ X) := by
  unfold Rd at h ⊢
  rw [app_list, hx]
  refine um_pre (b := I[1]) (sl := true) ?_ (um_sign _ hs)
  have e : um I.data.toList false = um (I[1] :: (I.extract 2 I.size).data.toList) true := by
    rw [cons_two I h0, u8_eq (by decide) hb]
    exact um_slash _
  rw [h, e]
theorem Rd.nosign {W : List UInt8} {I O : ByteArray} (h : Rd W I O) (h0 : 1 < I.size) (hb : I[0].toNat = 92) (hs : mb I[1] = false) : um W false = none := by
  unfold Rd at h
  have e : um I.data.toList false = um (I[1] :: (I.extract 2 I.size).data.toList) true := by
    rw [cons_two I h0, u8_eq (by decide) hb]
    exact um_slash _
  rw [h, e, um_nosign _ hs]
  rfl
theorem Rd.done {W : List UInt8} {I O : ByteArray} (h : Rd W I O) (h0 : I.size = 0) : um W false = some O.data.toList := by
  unfold Rd at h
  have e : I.data.toList = [] := List.eq_nil_of_length_eq_zero (by rw [len_list]; exact h0)
  rw [h, e]
  simp [um_end]

/-- What is read, as values. -/
def uq (l : List UInt8) : Ending := match unq l with
  | some o => .returned (.tuple #[.string ⟨o.toArray⟩, .int .i64 0])
  | none => .returned (.tuple #[.string ⟨#[]⟩, .int .i64 22])
theorem uq_none {l : List UInt8} (h : unq l = none) : Ending.returned (.tuple #[.string ⟨#[]⟩, .int .i64 22]) = uq l := by unfold uq; rw [h]
theorem uq_some {l : List UInt8} {O : ByteArray} (h : unq l = some O.data.toList) : Ending.returned (.tuple #[.string O, .int .i64 0]) = uq l := by
  unfold uq; rw [h]
/-- The text between the quotes. -/
def mid (s : ByteArray) : ByteArray := s.extract 1 (s.size - 1)
theorem mid_size (s : ByteArray) : (mid s).size = s.size - 2 := by unfold mid; rw [ByteArray.size_extract]; omega
theorem unq_mid (s : ByteArray) (h : 2 ≤ s.size) (h0 : s[0].toNat = 34) (h1 : s[s.size - 1].toNat = 34) : unq s.data.toList = um (mid s).data.toList false := by
  unfold unq
  have e : (mid s).data.toList = (s.data.toList.drop 1).take (s.data.toList.length - 2) := by
    unfold mid
    rw [ByteArray.data_extract, Array.toList_extract, List.extract_eq_take_drop, len_list]
    rfl
  have g0 : s.data.toList.getD 0 0 = 34 := by
    have := gb_of s 0 (by omega)
    unfold gb at this
    rw [← UInt8.toNat_inj, ← this, h0]; rfl
  have g1 : s.data.toList.getD (s.data.toList.length - 1) 0 = 34 := by
    rw [len_list]
    have := gb_of s (s.size - 1) (by omega)
    unfold gb at this
    rw [← UInt8.toNat_inj, ← this, h1]; rfl
  rw [if_neg (by rw [g0, g1, len_list]; simp; omega), e]
theorem unq_bad (s : ByteArray) (h : s.size < 2 ∨ gb s 0 ≠ 34 ∨ gb s (s.size - 1) ≠ 34) : unq s.data.toList = none := by
  unfold unq
  rw [if_pos]
  rw [len_list]
  unfold gb at h
  rcases h with h | h | h
  · exact .inl h
  · exact .inr (.inl fun e => h (by rw [e]; rfl))
  · exact .inr (.inr fun e => h (by rw [e]; rfl))

set_option maxHeartbeats 2000000 in
theorem runquote_bad (s : ByteArray) (w : World) (hs : s.size ≤ 100000) (h : s.size < 2 ∨ gb s 0 ≠ 34 ∨ gb s (s.size - 1) ≠ 34) :
    Calls Try.prog 59 #[.string s] w fun e w' => e = uq s.data.toList ∧ w = w' := by
  have HU := Lib.hid (unq_bad s h)
  by_cases h1 : s.size < 2
  · have h1z : (s.size : Int) < 2 := by omega
    clear h
    go_enter Try.func59, Try.ntmps59
    go_wp2_with fail
    go_ret2
    exact ⟨uq_none HU.out, rfl⟩
  have h1z : ¬ (s.size : Int) < 2 := by omega
  have g0 := gb_of s 0 (by omega)
  have g1 := gb_of s (s.size - 1) (by omega)
  by_cases h2 : gb s 0 = 34
  · have q0 : (((s[0]'(by omega)).toNat : Int) != 34) = false := by simp; omega
    have q1 : (((s[s.size - 1]'(by omega)).toNat : Int) != 34) = true := by simp; omega
    have hx : s.size - 1 < s.size := by omega
    clear h g0 g1 h2
    go_enter Try.func59, Try.ntmps59
    go_wp2_with fail
    go_ret2
    exact ⟨uq_none HU.out, rfl⟩
  · have q0 : (((s[0]'(by omega)).toNat : Int) != 34) = true := by simp; omega
    have hx : 0 < s.size := by omega
    clear h g0 g1 h2
    go_enter Try.func59, Try.ntmps59
    go_wp2_with fail
    go_ret2
    exact ⟨uq_none HU.out, rfl⟩

set_option maxHeartbeats 4000000 in
theorem runquote_good (s : ByteArray) (w : World) (hs : s.size ≤ 100000) (h2 : 2 ≤ s.size) (h0 : gb s 0 = 34) (h1 : gb s (s.size - 1) = 34) :
    Calls Try.prog 59 #[.string s] w fun e w' => e = uq s.data.toList ∧ w = w' := by
  have g0 := gb_of s 0 (by omega)
  have g1 := gb_of s (s.size - 1) (by omega)
  have q0 : (((s[0]'(by omega)).toNat : Int) != 34) = false := by simp; omega
  have q1 : (((s[s.size - 1]'(by omega)).toNat : Int) != 34) = false := by simp; omega
  have hx : s.size - 1 < s.size := by omega
  have HU := Lib.hid (unq_mid s h2 (by omega) (by omega))
  have h1z : ¬ (s.size : Int) < 2 := by omega
  clear h0 h1 g0 g1
  have hms := mid_size s
  have HS : Rd (mid s).data.toList (mid s) ⟨#[]⟩ := by unfold Rd; simp
  have HM := Lib.hid hms
  clear hms
  go_enter Try.func59, Try.ntmps59
  go_wp2_with fail
  go_loopg [5, 6] s.size (fun kx o a wr => ∃ (I O : ByteArray), o = .string O ∧ a = .string I ∧ I.size ≤ kx ∧ I.size + O.size ≤ 100000 ∧ Hid (Rd (mid s).data.toList I O) ∧ Hid (w = wr))
  case atStart => exact ⟨mid s, _, rfl, rfl, by rw [HM.out]; omega, by rw [HM.out]; show _ + 0 ≤ _; omega, HS, rfl⟩
  case round =>
    clear HM HS q0 q1
    obtain ⟨I, O, rfl, rfl, hkx, hz, HR, HW⟩ := hrel
    obtain rfl := HW.out
    by_cases hlt : 0 < I.size
    · have hlz : (I.size : Int) > 0 := by omega
      have hr1 := rest_size I 1
      have hr2 := rest_size I 2
      by_cases h32 : (I[0]'hlt).toNat < 32
      · have c1 : ((I[0]'hlt).toNat : Int) < 32 := by omega
        have HF := Lib.hid (HR.out.low hlt (.inl h32))
        clear h32 hr1 hr2
        go_wp2_with fail
        go_ret2
        exact ⟨uq_none (HU.out.trans HF.out), rfl⟩
      have c1 : ¬ ((I[0]'hlt).toNat : Int) < 32 := by omega
      by_cases h34 : (I[0]'hlt).toNat = 34
      · have c2 : (((I[0]'hlt).toNat : Int) == 34) = true := by simp; omega
        have HF := Lib.hid (HR.out.low hlt (.inr h34))
        clear h32 h34 hr1 hr2
        go_wp2_with fail
        go_ret2
        exact ⟨uq_none (HU.out.trans HF.out), rfl⟩
      have c2 : (((I[0]'hlt).toNat : Int) == 34) = false := by simp; omega
      by_cases h92 : (I[0]'hlt).toNat = 92
      · have c3 : (((I[0]'hlt).toNat : Int) != 92) = false := by simp; omega
        by_cases h1 : 1 < I.size
        · have h1z : ¬ (I.size : Int) < 2 := by omega
          by_cases k110 : (I[1]'h1).toNat = 110
          · have d110 : (((I[1]'h1).toNat : Int) == 110) = true := by simp; omega
            have e1 := u8_eq (by decide) k110
            have HN := Lib.hid (HR.out.sign (X := ⟨#[10]⟩) h1 h92 (by rw [e1]; rfl) (by rw [e1]; rfl))
            have HI := Lib.hid hr2
            clear h32 h34 h92 k110 e1 hr1 hr2 
            go_wp2_with fail
            go_roundg (I.size - 2)
            case measure => omega
            case rel => exact ⟨_, _, rfl, rfl, by rw [HI.out]; exact Nat.le_refl _, by rw [HI.out, ByteArray.size_append]; show _ + (_ + 1) ≤ _; omega, HN.out, rfl⟩
          have d110 : (((I[1]'h1).toNat : Int) == 110) = false := by simp; omega
          by_cases k116 : (I[1]'h1).toNat = 116
          · have d116 : (((I[1]'h1).toNat : Int) == 116) = true := by simp; omega
            have e1 := u8_eq (by decide) k116
            have HN := Lib.hid (HR.out.sign (X := ⟨#[9]⟩) h1 h92 (by rw [e1]; rfl) (by rw [e1]; rfl))
            have HI := Lib.hid hr2
            clear h32 h34 h92 k116 e1 hr1 hr2 k110
            go_wp2_with fail
            go_roundg (I.size - 2)
            case measure => omega
            case rel => exact ⟨_, _, rfl, rfl, by rw [HI.out]; exact Nat.le_refl _, by rw [HI.out, ByteArray.size_append]; show _ + (_ + 1) ≤ _; omega, HN.out, rfl⟩
          have d116 : (((I[1]'h1).toNat : Int) == 116) = false := by simp; omega
          by_cases k34 : (I[1]'h1).toNat = 34
          · have d34 : (((I[1]'h1).toNat : Int) == 34) = true := by simp; omega
            have e1 := u8_eq (by decide) k34
            have HN := Lib.hid (HR.out.sign (X := ⟨#[34]⟩) h1 h92 (by rw [e1]; rfl) (by rw [e1]; rfl))
            have HI := Lib.hid hr2
            clear h32 h34 h92 k34 e1 hr1 hr2 k110 k116
            go_wp2_with fail
            go_roundg (I.size - 2)
            case measure => omega
            case rel => exact ⟨_, _, rfl, rfl, by rw [HI.out]; exact Nat.le_refl _, by rw [HI.out, ByteArray.size_append]; show _ + (_ + 1) ≤ _; omega, HN.out, rfl⟩
          have d34 : (((I[1]'h1).toNat : Int) == 34) = false := by simp; omega
          by_cases k92 : (I[1]'h1).toNat = 92
          · have d92 : (((I[1]'h1).toNat : Int) == 92) = true := by simp; omega
            have e1 := u8_eq (by decide) k92
            have HN := Lib.hid (HR.out.sign (X := ⟨#[92]⟩) h1 h92 (by rw [e1]; rfl) (by rw [e1]; rfl))
            have HI := Lib.hid hr2
            clear h32 h34 h92 k92 e1 hr1 hr2 k110 k116 k34
            go_wp2_with fail
            go_roundg (I.size - 2)
            case measure => omega
            case rel => exact ⟨_, _, rfl, rfl, by rw [HI.out]; exact Nat.le_refl _, by rw [HI.out, ByteArray.size_append]; show _ + (_ + 1) ≤ _; omega, HN.out, rfl⟩
          have d92 : (((I[1]'h1).toNat : Int) == 92) = false := by simp; omega
          have hsb : mb (I[1]'h1) = false := by
            simp only [mb, Bool.or_eq_false_iff, beq_eq_false_iff_ne, ne_eq, ← UInt8.toNat_inj]
            exact ⟨⟨⟨k110, k116⟩, k34⟩, k92⟩
          have HF := Lib.hid (HR.out.nosign h1 h92 hsb)
          clear h32 h34 h92 hr1 hr2 k110 k116 k34 k92 hsb
          go_wp2_with fail
          go_ret2
          exact ⟨uq_none (HU.out.trans HF.out), rfl⟩
        · have h1z : (I.size : Int) < 2 := by omega
          have HF := Lib.hid (HR.out.short (by omega) h92)
          clear h32 h34 h92 hr1 hr2
          go_wp2_with fail
          go_ret2
          exact ⟨uq_none (HU.out.trans HF.out), rfl⟩
      · have c3 : (((I[0]'hlt).toNat : Int) != 92) = true := by simp; omega
        have HN := Lib.hid (HR.out.byte hlt h92 (by omega))
        have HI := Lib.hid hr1
        have he : (I.extract 0 1).size = 1 := by rw [ByteArray.size_extract]; omega
        have HE := Lib.hid he
        clear h32 h34 h92 hr1 hr2 he
        go_wp2_with fail
        go_roundg (I.size - 1)
        case measure => omega
        case rel => exact ⟨_, _, rfl, rfl, by rw [HI.out]; exact Nat.le_refl _, by rw [HI.out, ByteArray.size_append, HE.out]; omega, HN.out, rfl⟩
    · have hlz : ¬ (I.size : Int) > 0 := by omega
      have HF := Lib.hid (HR.out.done (by omega))
      go_wp2_with fail
      go_ret2
      exact ⟨uq_some (HU.out.trans HF.out), rfl⟩
theorem runquote_any (s : ByteArray) (w : World) (hs : s.size ≤ 100000) :
    Calls Try.prog 59 #[.string s] w fun e w' => e = uq s.data.toList ∧ w = w' := by
  by_cases h : s.size < 2 ∨ gb s 0 ≠ 34 ∨ gb s (s.size - 1) ≠ 34
  · exact runquote_bad s w hs h
  · exact runquote_good s w hs (by omega) (by omega) (by omega)
end Go.Proofs.Ytnefnnoleeeedaa
/- Contracts: strings written by package runes. -/
namespace Go.Proofs.Ytnefnnoleeeedaa
open Go.RowKit

end Go.Proofs.Ytnefnnoleeeedaa
/- Contracts: strings read by package runes. -/
namespace Go.Proofs.Ytnefnnoleeeedaa
open Go.RowKit

/-- How far a string has been read, place by place. -/
def Rp (W : List UInt8) (k : Nat) (sl : Bool) (O : List UInt8) : Prop := um W false = (um (W.drop k) sl).map (O ++ ·)
theorem drop_cons (T : ByteArray) (k : Nat) (h : k < T.size) : T.data.toList.drop k = T[k] :: T.data.toList.drop (k + 1) := by
  rw [List.drop_eq_getElem_cons (by simpa using h)]; rfl
theorem Rp.first (W : List UInt8) : Rp W 0 false [] := by unfold Rp; simp
theorem Rp.low {T : ByteArray} {k : Nat} {O : List UInt8} (h : Rp T.data.toList k false O) (hk : k < T.size) (hb : T[k].toNat < 32 ∨ T[k].toNat = 34) : um T.data.toList false = none := by
  unfold Rp at h
  rw [h, drop_cons T k hk, um_low _ (by rw [ne_eq, ← UInt8.toNat_inj]; intro e; rw [e] at hb; revert hb; decide) (by rw [UInt8.lt_iff_toNat_lt, ← UInt8.toNat_inj]; exact hb)]
  rfl
theorem Rp.byte {T : ByteArray} {k : Nat} {O : List UInt8} (h : Rp T.data.toList k false O) (hk : k < T.size) (hb : T[k].toNat ≠ 92) (hc : ¬ (T[k].toNat < 32 ∨ T[k].toNat = 34)) : Rp T.data.toList (k + 1) false (O ++ [T[k]]) := by
  unfold Rp at h ⊢
  rw [drop_cons T k hk] at h
  exact um_pre h (um_byte _ (by rw [ne_eq, ← UInt8.toNat_inj]; exact hb) (by rw [UInt8.lt_iff_toNat_lt, ← UInt8.toNat_inj]; exact hc))
theorem Rp.done {T : ByteArray} {O : List UInt8} {sl : Bool} (h : Rp T.data.toList T.size sl O) : um T.data.toList false = if sl = true then none else some O := by
  unfold Rp at h
  rw [List.drop_of_length_le (by rw [len_list]; exact Nat.le_refl _), um_end] at h
  rw [h]
  cases sl <;> simp

end Go.Proofs.Ytnefnnoleeeedaa

/- Contracts: the small functions of package token, and how many bytes a machine goes through. -/
namespace Go.Proofs.Ytnefnnoleeeedaa
open Go.RowKit

/-- A captured bool, in block g. -/
def Flag (w : World) (g : Nat) (c : Bool) : Prop := RowB w g 4 #[.bool c]
theorem Flag.put {w : World} {g : Nat} {c : Bool} (h : Flag w g c) (d : Bool) : Flag (w.setCell ⟨g, 0, none⟩ (.bool d)) g d := RowB.put h 0 _

/-- How far a machine has gone. -/
def Far (st go : Bool → Int → Bool) (s : ByteArray) (k : Nat) (c : Bool) : Prop := runM st go false s.data.toList = k + runM st go c (s.data.toList.drop k)
theorem Far.first (st go : Bool → Int → Bool) (s : ByteArray) : Far st go s 0 false := by unfold Far; simp
theorem drop_cons' (T : ByteArray) (k : Nat) (h : k < T.size) : T.data.toList.drop k = T[k] :: T.data.toList.drop (k + 1) := by
  rw [List.drop_eq_getElem_cons (by simpa using h)]; rfl
theorem Far.next {st go : Bool → Int → Bool} {s : ByteArray} {k : Nat} {c : Bool} (h : Far st go s k c) (hk : k < s.size) (hg : go c s[k].toNat = true) : Far st go s (k + 1) (st c s[k].toNat) := by
  unfold Far at h ⊢
  rw [h, drop_cons' s k hk, runM_go hg]
  omega
theorem Far.stop {st go : Bool → Int → Bool} {s : ByteArray} {k : Nat} {c : Bool} (h : Far st go s k c) (hk : k < s.size) (hg : go c s[k].toNat = false) : runM st go false s.data.toList = k := by
  unfold Far at h
  rw [h, drop_cons' s k hk, runM_stop hg]
  rfl
theorem Far.done {st go : Bool → Int → Bool} {s : ByteArray} {c : Bool} (h : Far st go s s.size c) : runM st go false s.data.toList = s.size := by
  unfold Far at h
  rw [h, List.drop_of_length_le (by rw [len_list]; exact Nat.le_refl _)]
  rfl

end Go.Proofs.Ytnefnnoleeeedaa

/- Contracts: keys, numbers, strings and signs at a text's beginning. -/
namespace Go.Proofs.Ytnefnnoleeeedaa
open Go.RowKit

def keys : List (List UInt8) := [[100, 101, 102], [100, 121, 110], [101, 108, 115, 101], [102, 110], [105, 102], [105, 110, 112, 117, 116], [105, 110, 116], [108, 101, 116], [112, 114, 105, 110, 116], [114, 101, 116, 117, 114, 110], [115, 116, 114], [117, 115, 101], [119, 104, 105, 108, 101]]
def keyL (l : List UInt8) : Bool := keys.contains l
/-- The two errors of numbers stand in the library's variables. -/
def Errs (w : World) : Prop := (∃ t p, w.cell? ⟨3, 0, none⟩ = some (.iface t p)) ∧ (∃ t p, w.cell? ⟨4, 0, none⟩ = some (.iface t p))
theorem Errs.below {w w' : World} (h : Errs w) (hb : Below w.heap.size w w') : Errs w' := by
  obtain ⟨⟨t, p, h1⟩, ⟨u, q, h2⟩⟩ := h
  exact ⟨⟨t, p, (hb.cell (World.block_lt_of_cell? _ _ h1)).trans h1⟩, ⟨u, q, (hb.cell (World.block_lt_of_cell? _ _ h2)).trans h2⟩⟩
/-- Is a text a number of 64 bits? -/
def numOk (l : List UInt8) : Bool := match Lib.parseIntB 64 l with
  | .ok _ => true
  | _ => false
/-- Three numbers, as a function answers them: a kind, how many bytes, what is wrong. -/
def tri (x : Nat × Nat × Nat) : Ending := .returned (.tuple #[.int .i64 x.1, .int .i64 x.2.1, .int .i64 x.2.2])
def wordL (l : List UInt8) : Nat × Nat × Nat := if keyL (l.take (wLen l)) = true then (2, wLen l, 0) else if wLen l > 40 then (0, 0, 26) else (1, wLen l, 0)
def numL (l : List UInt8) : Nat × Nat × Nat := if numOk (l.take (wLen l)) = true then (3, wLen l, 0) else (0, 0, 23)
def qLong (l : List UInt8) : Nat := min (1 + qLen (l.drop 1) + 1) l.length
def quotL (l : List UInt8) : Nat × Nat × Nat := if (unq (l.take (qLong l))).isSome = true then (4, qLong l, 0) else (0, 0, 22)
def signs : List UInt8 := [40, 41, 123, 125, 44, 59, 58, 46, 61, 43, 45, 42, 60]
def signL (l : List UInt8) : Nat × Nat × Nat := if Lib.hasPrefix l [61, 61] = true then (5, 2, 0) else if 0 ≤ Lib.indexByte signs (l.getD 0 0) then (5, 1, 0) else (0, 0, 21)

theorem wLen_le (l : List UInt8) : wLen l ≤ l.length := runM_le _ _ _ _
theorem tri_eq {x : Nat × Nat × Nat} {a b c : Nat} (h : x = (a, b, c)) : Ending.returned (.tuple #[.int .i64 (a : Int), .int .i64 (b : Int), .int .i64 (c : Int)]) = tri x := by rw [h]; rfl

end Go.Proofs.Ytnefnnoleeeedaa

