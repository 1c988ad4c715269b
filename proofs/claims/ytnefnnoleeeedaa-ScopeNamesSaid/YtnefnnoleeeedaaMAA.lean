import Derived.Lib.DecodeN
import Derived.Lib.RuneBytes
import Derived.WalkKit
import Derived.WalkLawsBesides
import Derived.WalkSpells
import Derived.BigQuiet
import Derived.Deep.QuietTactic
import Derived.Lib.Hide
import Derived.Test.YtnefnnoleeeedaaRows
import Derived.Deep.LoopGhost
import Derived.Lib.UnsafeStr
import Derived.Laws.IdiomStrings
import Derived.Laws.MakeOwn
import Derived.OwnWalk
import Derived.WideLaws
import Derived.Lib.ConvBytes
import Derived.Lib.ParseIntB
import Derived.Lib.Strings
import Derived.Lib.Bytealg
import Derived.Lib.LaidU8
import Derived.IntWalk
import Derived.StillTailTactics
import Derived.BigRegion
import Derived.RegionTactic
import Derived.ChangeAlike
import Derived.Outline
namespace Go.Proofs.Ytnefnnoleeeedaa
def sg (b : UInt8) : UInt8 := if b = 10 then 110 else if b = 9 then 116 else if b = 34 then 34 else if b = 92 then 92 else 0
def sb (b : UInt8) : Bool := b == 10 || b == 9 || b == 34 || b == 92
def esc (b : UInt8) : List UInt8 := if sb b = true then [92, sg b] else [b]
def mn (b : UInt8) : UInt8 := if b = 110 then 10 else if b = 116 then 9 else if b = 34 then 34 else if b = 92 then 92 else 0
def mb (b : UInt8) : Bool := b == 110 || b == 116 || b == 34 || b == 92
def um : List UInt8 → Bool → Option (List UInt8)
  | [], sl => if sl = true then none else some []
  | b :: t, true => if mb b = true then (um t false).map (mn b :: ·) else none
  | b :: t, false => if b = 92 then um t true else if b < 32 ∨ b = 34 then none else (um t false).map (b :: ·)
def unq (l : List UInt8) : Option (List UInt8) := if l.length < 2 ∨ l.getD 0 0 ≠ 34 ∨ l.getD (l.length - 1) 0 ≠ 34 then none else um ((l.drop 1).take (l.length - 2)) false
theorem flat_snoc (l : List UInt8) (b : UInt8) : (l ++ [b]).flatMap esc = l.flatMap esc ++ esc b := by simp
theorem flat_len : ∀ l : List UInt8, (l.flatMap esc).length ≤ 2 * l.length
  | [] => by simp
  | b :: l => by
    have := flat_len l
    simp only [List.flatMap_cons, List.length_append, List.length_cons]
    have h : (esc b).length ≤ 2 := by unfold esc; split <;> simp
    omega
theorem um_end (sl : Bool) : um [] sl = if sl = true then none else some [] := by rw [um]
theorem um_sign {b : UInt8} (t : List UInt8) (h : mb b = true) : um (b :: t) true = (um t false).map (mn b :: ·) := by rw [um, if_pos h]
theorem um_nosign {b : UInt8} (t : List UInt8) (h : mb b = false) : um (b :: t) true = none := by rw [um, if_neg (by simp [h])]
theorem um_slash (t : List UInt8) : um (92 :: t) false = um t true := by rw [um, if_pos rfl]
theorem um_low {b : UInt8} (t : List UInt8) (h0 : b ≠ 92) (h : b < 32 ∨ b = 34) : um (b :: t) false = none := by rw [um, if_neg h0, if_pos h]
theorem um_byte {b : UInt8} (t : List UInt8) (h0 : b ≠ 92) (h : ¬ (b < 32 ∨ b = 34)) : um (b :: t) false = (um t false).map (b :: ·) := by rw [um, if_neg h0, if_neg h]
def low (l : List UInt8) : Bool := l.any fun b => decide (b < 32) && (b != 9) && (b != 10)
theorem um_pre {W O : List UInt8} {sl : Bool} {m : UInt8} {t : List UInt8} {b : UInt8} (h : um W false = (um (b :: t) sl).map (O ++ ·)) (he : um (b :: t) sl = (um t false).map (m :: ·)) : um W false = (um t false).map ((O ++ [m]) ++ ·) := by
  rw [h, he, Option.map_map]
  congr 1
  funext x
  simp
end Go.Proofs.Ytnefnnoleeeedaa
namespace Go.Proofs.Ytnefnnoleeeedaa
def letN (n : Int) : Bool := decide ((97 ≤ n ∧ n ≤ 122) ∨ (65 ≤ n ∧ n ≤ 90) ∨ n = 95)
def digN (n : Int) : Bool := decide (48 ≤ n ∧ n ≤ 57)
def blkN (n : Int) : Bool := decide (n = 32 ∨ n = 9 ∨ n = 10 ∨ n = 13)
def wdN (n : Int) : Bool := letN n || digN n
def cmt (c : Bool) (n : Int) : Bool := if n = 10 then false else if n = 35 then true else c
def sls (c : Bool) (n : Int) : Bool := decide (n = 92) && !c
def runM (st : Bool → Int → Bool) (go : Bool → Int → Bool) : Bool → List UInt8 → Nat
  | _, [] => 0
  | c, b :: t => if go c b.toNat = true then 1 + runM st go (st c b.toNat) t else 0
theorem runM_le (st go : Bool → Int → Bool) : ∀ (c : Bool) (l : List UInt8), runM st go c l ≤ l.length
  | _, [] => Nat.le_refl _
  | c, b :: t => by
    have := runM_le st go (st c b.toNat) t
    unfold runM
    split <;> simp <;> omega
theorem runM_go {st go : Bool → Int → Bool} {c : Bool} {b : UInt8} {t : List UInt8} (h : go c b.toNat = true) : runM st go c (b :: t) = 1 + runM st go (st c b.toNat) t := by rw [runM, if_pos h]
theorem runM_stop {st go : Bool → Int → Bool} {c : Bool} {b : UInt8} {t : List UInt8} (h : go c b.toNat = false) : runM st go c (b :: t) = 0 := by rw [runM, if_neg (by simp [h])]
def wSt (c : Bool) (_n : Int) : Bool := c
def wGo (_c : Bool) (n : Int) : Bool := wdN n
def lGo (c : Bool) (n : Int) : Bool := cmt c n || blkN n
def qGo (c : Bool) (n : Int) : Bool := decide (n ≠ 34) || c
def wLen (l : List UInt8) : Nat := runM wSt wGo false l
def lLen (l : List UInt8) : Nat := runM cmt lGo false l
def qLen (l : List UInt8) : Nat := runM sls qGo false l
end Go.Proofs.Ytnefnnoleeeedaa
namespace Go.Proofs.Ytnefnnoleeeedaa
open Go.Lib (decodeN encodeRune encodeRuneZ)
theorem len_pos {l : List UInt8} (h : l ≠ []) : 0 < l.length := by cases l <;> simp_all
def dec (l : List UInt8) : Nat × Nat := decodeN l.length (l.getD 0 0).toNat (l.getD 1 0).toNat (l.getD 2 0).toNat (l.getD 3 0).toNat
def okc (l : List UInt8) : Bool := !(decide (dec l = (65533, 1)))
theorem decN_ways (n b0 b1 b2 b3 : Nat) :
    (decodeN n b0 b1 b2 b3 = (65533, 1) ∧ 128 ≤ b0) ∨ (b0 < 128 ∧ decodeN n b0 b1 b2 b3 = (b0, 1)) ∨
    (b0 / 32 = 6 ∧ 1 < n ∧ b1 / 64 = 2 ∧ 128 ≤ b0 % 32 * 64 + b1 % 64 ∧ decodeN n b0 b1 b2 b3 = (b0 % 32 * 64 + b1 % 64, 2)) ∨
    (b0 / 16 = 14 ∧ 2 < n ∧ b1 / 64 = 2 ∧ b2 / 64 = 2 ∧ 2048 ≤ b0 % 16 * 4096 + b1 % 64 * 64 + b2 % 64 ∧ ¬ (55296 ≤ b0 % 16 * 4096 + b1 % 64 * 64 + b2 % 64 ∧ b0 % 16 * 4096 + b1 % 64 * 64 + b2 % 64 < 57344) ∧
      decodeN n b0 b1 b2 b3 = (b0 % 16 * 4096 + b1 % 64 * 64 + b2 % 64, 3)) ∨
    (b0 / 8 = 30 ∧ 3 < n ∧ b1 / 64 = 2 ∧ b2 / 64 = 2 ∧ b3 / 64 = 2 ∧ 65536 ≤ b0 % 8 * 262144 + b1 % 64 * 4096 + b2 % 64 * 64 + b3 % 64 ∧ b0 % 8 * 262144 + b1 % 64 * 4096 + b2 % 64 * 64 + b3 % 64 ≤ 1114111 ∧
      decodeN n b0 b1 b2 b3 = (b0 % 8 * 262144 + b1 % 64 * 4096 + b2 % 64 * 64 + b3 % 64, 4)) := by
  unfold decodeN
  by_cases h0 : b0 < 128
  · right; left; exact ⟨h0, by rw [if_pos h0]⟩
  rw [if_neg h0]
  by_cases h1 : b0 / 32 = 6 ∧ (1 < n ∧ b1 / 64 = 2)
  · rw [if_pos h1]
    by_cases g : b0 % 32 * 64 + b1 % 64 ≥ 128
    · rw [if_pos g]; right; right; left; exact ⟨h1.1, h1.2.1, h1.2.2, g, rfl⟩
    · rw [if_neg g]; left; exact ⟨rfl, by omega⟩
  rw [if_neg h1]
  by_cases h2 : b0 / 16 = 14 ∧ (1 < n ∧ b1 / 64 = 2) ∧ (2 < n ∧ b2 / 64 = 2)
  · rw [if_pos h2]
    by_cases g : b0 % 16 * 4096 + b1 % 64 * 64 + b2 % 64 ≥ 2048 ∧ (b0 % 16 * 4096 + b1 % 64 * 64 + b2 % 64 < 55296 ∨ (57344 ≤ b0 % 16 * 4096 + b1 % 64 * 64 + b2 % 64 ∧ b0 % 16 * 4096 + b1 % 64 * 64 + b2 % 64 ≤ 1114111))
    · rw [if_pos g]; right; right; right; left; exact ⟨h2.1, h2.2.2.1, h2.2.1.2, h2.2.2.2, g.1, by omega, rfl⟩
    · rw [if_neg g]; left; exact ⟨rfl, by omega⟩
  rw [if_neg h2]
  by_cases h3 : b0 / 8 = 30 ∧ (1 < n ∧ b1 / 64 = 2) ∧ (2 < n ∧ b2 / 64 = 2) ∧ (3 < n ∧ b3 / 64 = 2)
  · rw [if_pos h3]
    by_cases g : b0 % 8 * 262144 + b1 % 64 * 4096 + b2 % 64 * 64 + b3 % 64 ≥ 65536 ∧ (b0 % 8 * 262144 + b1 % 64 * 4096 + b2 % 64 * 64 + b3 % 64 < 55296 ∨ (57344 ≤ b0 % 8 * 262144 + b1 % 64 * 4096 + b2 % 64 * 64 + b3 % 64 ∧ b0 % 8 * 262144 + b1 % 64 * 4096 + b2 % 64 * 64 + b3 % 64 ≤ 1114111))
    · rw [if_pos g]; right; right; right; right; exact ⟨h3.1, h3.2.2.2.1, h3.2.1.2, h3.2.2.1.2, h3.2.2.2.2, g.1, by omega, rfl⟩
    · rw [if_neg g]; left; exact ⟨rfl, by omega⟩
  rw [if_neg h3]
  left; exact ⟨rfl, by omega⟩
theorem decN_pos (n b0 b1 b2 b3 : Nat) : 1 ≤ (decodeN n b0 b1 b2 b3).2 ∧ (decodeN n b0 b1 b2 b3).2 ≤ 4 := by
  rcases decN_ways n b0 b1 b2 b3 with ⟨h, _⟩ | ⟨_, h⟩ | ⟨_, _, _, _, h⟩ | ⟨_, _, _, _, _, _, h⟩ | ⟨_, _, _, _, _, _, _, h⟩ <;> rw [h] <;> simp
theorem decN_le (n b0 b1 b2 b3 : Nat) (hn : 1 ≤ n) : (decodeN n b0 b1 b2 b3).2 ≤ n := by
  rcases decN_ways n b0 b1 b2 b3 with ⟨h, _⟩ | ⟨_, h⟩ | ⟨_, _, _, _, h⟩ | ⟨_, _, _, _, _, _, h⟩ | ⟨_, _, _, _, _, _, _, h⟩ <;> rw [h] <;> simp <;> omega
theorem dec_pos (l : List UInt8) : 1 ≤ (dec l).2 := (decN_pos _ _ _ _ _).1
theorem dec_le4 (l : List UInt8) : (dec l).2 ≤ 4 := (decN_pos _ _ _ _ _).2
theorem dec_le (l : List UInt8) (h : l ≠ []) : (dec l).2 ≤ l.length := decN_le _ _ _ _ _ (len_pos h)
def badAt (l : List UInt8) : Option Nat := if _h : l = [] then none else if okc l = true then (badAt (l.drop (dec l).2)).map (· + (dec l).2) else some 0
termination_by l.length
decreasing_by
  have := dec_pos l
  have := len_pos _h
  simp
  omega
def badI (l : List UInt8) : Int := match badAt l with | none => -1 | some k => k
theorem bad_nil : badAt [] = none := by rw [badAt]; simp
theorem bad_step {l : List UInt8} (h : l ≠ []) (hok : okc l = true) : badAt l = (badAt (l.drop (dec l).2)).map (· + (dec l).2) := by rw [badAt]; simp [h, hok]
theorem bad_here {l : List UInt8} (h : l ≠ []) (hok : okc l = false) : badAt l = some 0 := by rw [badAt]; simp [h, hok]
theorem badI_none {l : List UInt8} (h : badAt l = none) : badI l = -1 := by unfold badI; rw [h]
end Go.Proofs.Ytnefnnoleeeedaa
namespace Go.Proofs.Ytnefnnoleeeedaa
open Go.RowKit
theorem rb {a b : Bool} (h : a = true ↔ b = true) : Ending.returned (.bool a) = .returned (.bool b) := by
  rw [Bool.eq_iff_iff.2 h]
theorem ri {k : IntKind} {a b : Int} (h : a = b) : Ending.returned (.int k a) = .returned (.int k b) := by rw [h]
theorem below_drewN {B : Nat} {a w : World} (h : Below B a w) (n : Nat) : Below B a (w.drewN n) := ⟨h.os, h.tape, h.output, h.size, h.block⟩
def Ints (w : World) (B : Nat) (A : Option Addr) (xs : List Int) : Prop :=
  0 < xs.length → ∃ b : Nat, A = some ⟨b, 0, none⟩ ∧ b < B ∧ ∀ j, j < xs.length → w.cell? ⟨b, j, none⟩ = some (.int .i64 (xs.getD j 0))
theorem Ints.below {w w' : World} {B : Nat} {A : Option Addr} {xs : List Int} (h : Ints w B A xs) (hb : Below B w w') : Ints w' B A xs := fun hn => by
  obtain ⟨b, e, hlt, hc⟩ := h hn
  exact ⟨b, e, hlt, fun j hj => (hb.cell (p := ⟨b, j, none⟩) hlt).trans (hc j hj)⟩
theorem Ints.alloc {w : World} {B : Nat} {A : Option Addr} {xs : List Int} (h : Ints w B A xs) (hB : B ≤ w.heap.size) (o : Obj) : Ints (w.alloc o) B A xs :=
  h.below ((Below.refl _ _).alloc hB o)
theorem Ints.of_own {w : World} {base e n c : Nat} {A : Option Addr} {xs : List Int} (h : w.ownsRow base e 1 (.slice A n c) n (xs.map (Value.int .i64))) (hn : n = xs.length) : Ints w w.heap.size A xs := fun h0 => by
  subst hn
  rcases h.2 with ⟨hv, hx⟩ | ⟨g, cap, cur, hv, _, hh, _⟩
  · simp at hx; subst hx; simp at h0
  · injection hv with hA _ _
    subst hA
    refine ⟨g, rfl, (h.lt g rfl).2, fun j hj => ?_⟩
    have := h.cells (g := g) rfl j (.int .i64 (xs.getD j 0)) (by simp [hj])
    simp only [Addr.add] at this
    by_cases hj0 : j = 0 <;> simpa [hj0] using this
def RowB (w : World) (g : Nat) (t : TypeId) (cs : Array Value) : Prop := w.heap[g]? = some (.cells cs t (0, 0))
theorem RowB.cell {w : World} {g t : Nat} {cs : Array Value} (h : RowB w g t cs) (i : Nat) : w.cell? ⟨g, i, none⟩ = cs[i]? := cell_of_row w g i cs t (0, 0) h
theorem RowB.thaw {w : World} {g t : Nat} {cs : Array Value} (h : RowB w g t cs) (i : Nat) : w.frozen? ⟨g, i, none⟩ = false := by
  unfold RowB at h
  simp [World.frozen?, h]
theorem RowB.lt {w : World} {g t : Nat} {cs : Array Value} (h : RowB w g t cs) : g < w.heap.size := by
  rcases Nat.lt_or_ge g w.heap.size with h1 | h1
  · exact h1
  · unfold RowB at h; rw [Array.getElem?_eq_none h1] at h; cases h
theorem RowB.new (w : World) (t : TypeId) (cs : Array Value) : RowB (w.alloc (.cells cs t)) w.heap.size t cs := heap_alloc_new w _
theorem RowB.alloc {w : World} {g t : Nat} {cs : Array Value} (h : RowB w g t cs) (o : Obj) : RowB (w.alloc o) g t cs := (Below.heap_alloc w o g h.lt).trans h
theorem RowB.below {w w' : World} {g t B : Nat} {cs : Array Value} (h : RowB w g t cs) (hb : Below B w w') (hg : g < B) : RowB w' g t cs := (hb.block g hg).trans h
theorem RowB.grown {w w' : World} {g t : Nat} {cs : Array Value} {row : Option Nat} (h : RowB w g t cs) (hb : w.grownBy w' row) (hg : some g ≠ row) : RowB w' g t cs := (hb.block g h.lt hg).trans h
theorem RowB.far {w : World} {g t : Nat} {cs : Array Value} (h : RowB w g t cs) {p : Addr} (hp : g ≠ p.block) (u : Value) : RowB (w.setCell p u) g t cs := (Below.heap_setCell w p u g hp).trans h
theorem RowB.put {w : World} {g t : Nat} {cs : Array Value} (h : RowB w g t cs) (i : Nat) (u : Value) : RowB (w.setCell ⟨g, i, none⟩ u) g t (cs.setIfInBounds i u) := by
  unfold RowB at h ⊢
  simp [World.setCell, Array.getElem?_modify, h]
end Go.Proofs.Ytnefnnoleeeedaa
namespace Go.Proofs.Ytnefnnoleeeedaa
open Go.Lib (decodeN)
def gb (s : ByteArray) (i : Nat) : Nat := (s.data.toList.getD i 0).toNat
theorem gb_lt (s : ByteArray) (i : Nat) : gb s i < 256 := UInt8.toNat_lt _
theorem gb_of (s : ByteArray) (i : Nat) (h : i < s.size) : (s[i]'h).toNat = gb s i := by
  unfold gb
  rw [List.getD_eq_getElem?_getD, List.getElem?_eq_getElem (by simpa using h)]
  rfl
def tl (s : ByteArray) (i : Nat) : List UInt8 := s.data.toList.drop i
theorem tl_len (s : ByteArray) (i : Nat) : (tl s i).length = s.size - i := by simp [tl]
theorem tl_ne (s : ByteArray) (i : Nat) (h : i < s.size) : tl s i ≠ [] := by
  intro e
  have := tl_len s i
  rw [e] at this
  simp at this
  omega
theorem tl_end (s : ByteArray) (i : Nat) (h : s.size ≤ i) : tl s i = [] := List.eq_nil_of_length_eq_zero (by rw [tl_len]; omega)
theorem tl_get (s : ByteArray) (i j : Nat) : ((tl s i).getD j 0).toNat = gb s (i + j) := by
  unfold tl gb
  simp [List.getD_eq_getElem?_getD, List.getElem?_drop]
theorem tl_drop (s : ByteArray) (i j : Nat) : (tl s i).drop j = tl s (i + j) := by simp [tl, List.drop_drop]
theorem dec_tl (s : ByteArray) (i : Nat) : dec (tl s i) = decodeN (s.size - i) (gb s i) (gb s (i + 1)) (gb s (i + 2)) (gb s (i + 3)) := by
  unfold dec
  rw [tl_len, tl_get, tl_get, tl_get, tl_get, Nat.add_zero]
theorem dec_w (s : ByteArray) (i : Nat) (h : i < s.size) : 1 ≤ (dec (tl s i)).2 ∧ (dec (tl s i)).2 ≤ 4 ∧ i + (dec (tl s i)).2 ≤ s.size := by
  have h1 := dec_le _ (tl_ne s i h)
  rw [tl_len] at h1
  exact ⟨dec_pos _, dec_le4 _, by omega⟩
theorem dN_ascii (n b0 b1 b2 b3 : Nat) (h : b0 < 128) : decodeN n b0 b1 b2 b3 = (b0, 1) := by unfold decodeN; rw [if_pos h]
theorem dN_none (n b0 b1 b2 b3 : Nat) (h : 128 ≤ b0) (h' : b0 < 192 ∨ 248 ≤ b0) (h2 : b0 < 256) : decodeN n b0 b1 b2 b3 = (65533, 1) := by
  rcases decN_ways n b0 b1 b2 b3 with ⟨h, _⟩ | ⟨_, h⟩ | ⟨_, _, _, _, h⟩ | ⟨_, _, _, _, _, _, h⟩ | ⟨_, _, _, _, _, _, _, h⟩ <;> first | exact h | omega
theorem dN_two_bad (n b0 b1 b2 b3 : Nat) (h : 192 ≤ b0) (h' : b0 < 224) (hb : n < 2 ∨ b1 < 128 ∨ 192 ≤ b1) (hb1 : b1 < 256) : decodeN n b0 b1 b2 b3 = (65533, 1) := by
  rcases decN_ways n b0 b1 b2 b3 with ⟨h, _⟩ | ⟨_, h⟩ | ⟨_, _, _, _, h⟩ | ⟨_, _, _, _, _, _, h⟩ | ⟨_, _, _, _, _, _, _, h⟩ <;> first | exact h | omega
theorem dN_three_bad (n b0 b1 b2 b3 : Nat) (h : 224 ≤ b0) (h' : b0 < 240) (hb : n < 3 ∨ b1 < 128 ∨ 192 ≤ b1 ∨ b2 < 128 ∨ 192 ≤ b2) (hb1 : b1 < 256) (hb2 : b2 < 256) : decodeN n b0 b1 b2 b3 = (65533, 1) := by
  rcases decN_ways n b0 b1 b2 b3 with ⟨h, _⟩ | ⟨_, h⟩ | ⟨_, _, _, _, h⟩ | ⟨_, _, _, _, _, _, h⟩ | ⟨_, _, _, _, _, _, _, h⟩ <;> first | exact h | omega
theorem dN_four_bad (n b0 b1 b2 b3 : Nat) (h : 240 ≤ b0) (h' : b0 < 248) (hb : n < 4 ∨ b1 < 128 ∨ 192 ≤ b1 ∨ b2 < 128 ∨ 192 ≤ b2 ∨ b3 < 128 ∨ 192 ≤ b3) (hb1 : b1 < 256) (hb2 : b2 < 256) (hb3 : b3 < 256) : decodeN n b0 b1 b2 b3 = (65533, 1) := by
  rcases decN_ways n b0 b1 b2 b3 with ⟨h, _⟩ | ⟨_, h⟩ | ⟨_, _, _, _, h⟩ | ⟨_, _, _, _, _, _, h⟩ | ⟨_, _, _, _, _, _, _, h⟩ <;> first | exact h | omega
def fits (n : Nat) (v : Int) : Bool := !(decide (v < (if n = 2 then 128 else if n = 3 then 2048 else 65536)) || decide (v > 1114111) || (decide (v ≥ 55296) && decide (v < 57344)))
theorem dN_two (n b0 b1 b2 b3 : Nat) (h : 192 ≤ b0) (h' : b0 < 224) (hn : 2 ≤ n) (c1 : 128 ≤ b1) (c1' : b1 < 192) :
    decodeN n b0 b1 b2 b3 = if fits 2 (((b0 : Int) - 192) * 64 + b1 - 128) = true then ((((b0 : Int) - 192) * 64 + b1 - 128).toNat, 2) else (65533, 1) := by
  by_cases hf : fits 2 (((b0 : Int) - 192) * 64 + b1 - 128) = true
  · rw [if_pos hf]
    simp [fits] at hf
    unfold decodeN
    rw [if_neg (by omega), if_pos ⟨by omega, by omega, by omega⟩, if_pos (by omega)]
    congr 1; omega
  · rw [if_neg hf]
    simp [fits] at hf
    unfold decodeN
    rw [if_neg (by omega), if_pos ⟨by omega, by omega, by omega⟩, if_neg (by omega)]
theorem dN_three (n b0 b1 b2 b3 : Nat) (h : 224 ≤ b0) (h' : b0 < 240) (hn : 3 ≤ n) (c1 : 128 ≤ b1) (c1' : b1 < 192) (c2 : 128 ≤ b2) (c2' : b2 < 192) :
    decodeN n b0 b1 b2 b3 = if fits 3 ((((b0 : Int) - 224) * 64 + b1 - 128) * 64 + b2 - 128) = true then (((((b0 : Int) - 224) * 64 + b1 - 128) * 64 + b2 - 128).toNat, 3) else (65533, 1) := by
  by_cases hf : fits 3 ((((b0 : Int) - 224) * 64 + b1 - 128) * 64 + b2 - 128) = true
  · rw [if_pos hf]
    simp [fits] at hf
    unfold decodeN
    rw [if_neg (by omega), if_neg (by omega), if_pos ⟨by omega, ⟨by omega, by omega⟩, by omega, by omega⟩, if_pos (by omega)]
    congr 1; omega
  · rw [if_neg hf]
    simp [fits] at hf
    unfold decodeN
    rw [if_neg (by omega), if_neg (by omega), if_pos ⟨by omega, ⟨by omega, by omega⟩, by omega, by omega⟩, if_neg (by omega)]
theorem dN_four (n b0 b1 b2 b3 : Nat) (h : 240 ≤ b0) (h' : b0 < 248) (hn : 4 ≤ n) (c1 : 128 ≤ b1) (c1' : b1 < 192) (c2 : 128 ≤ b2) (c2' : b2 < 192) (c3 : 128 ≤ b3) (c3' : b3 < 192) :
    decodeN n b0 b1 b2 b3 = if fits 4 (((((b0 : Int) - 240) * 64 + b1 - 128) * 64 + b2 - 128) * 64 + b3 - 128) = true then ((((((b0 : Int) - 240) * 64 + b1 - 128) * 64 + b2 - 128) * 64 + b3 - 128).toNat, 4) else (65533, 1) := by
  by_cases hf : fits 4 (((((b0 : Int) - 240) * 64 + b1 - 128) * 64 + b2 - 128) * 64 + b3 - 128) = true
  · rw [if_pos hf]
    simp [fits] at hf
    unfold decodeN
    rw [if_neg (by omega), if_neg (by omega), if_neg (by omega), if_pos ⟨by omega, ⟨by omega, by omega⟩, ⟨by omega, by omega⟩, by omega, by omega⟩, if_pos (by omega)]
    congr 1; omega
  · rw [if_neg hf]
    simp [fits] at hf
    unfold decodeN
    rw [if_neg (by omega), if_neg (by omega), if_neg (by omega), if_pos ⟨by omega, ⟨by omega, by omega⟩, ⟨by omega, by omega⟩, by omega, by omega⟩, if_neg (by omega)]
def trip (l : List UInt8) : Ending := .returned (.tuple #[.int .i64 (dec l).1, .int .i64 (dec l).2, .bool (okc l)])
theorem trip_bad {l : List UInt8} (h : dec l = (65533, 1)) : Ending.returned (.tuple #[.int .i64 65533, .int .i64 1, .bool false]) = trip l := by
  unfold trip okc
  rw [h]
  rfl
theorem trip_good {l : List UInt8} {x n : Nat} (h : dec l = (x, n)) (hn : 2 ≤ n ∨ x < 128) {v m : Int} (hv : v = x) (hm : m = n) : Ending.returned (.tuple #[.int .i64 v, .int .i64 m, .bool true]) = trip l := by
  subst hv hm
  unfold trip okc
  rw [h]
  have : decide ((x, n) = (65533, 1)) = false := by simp; omega
  rw [this]
  rfl
end Go.Proofs.Ytnefnnoleeeedaa
namespace Go.Proofs.Ytnefnnoleeeedaa
open Go.RowKit
theorem app_list (a b : ByteArray) : (a ++ b).data.toList = a.data.toList ++ b.data.toList := by rw [ByteArray.data_append, Array.toList_append]
theorem len_list (a : ByteArray) : a.data.toList.length = a.size := by simp
theorem take_next (s : ByteArray) (k : Nat) (h : k < s.size) : s.data.toList.take (k + 1) = s.data.toList.take k ++ [s[k]] := by
  rw [List.take_succ_eq_append_getElem (by simpa using h)]; rfl
theorem ext_one (s : ByteArray) (k : Nat) (h : k < s.size) : (s.extract k (k + 1)).data.toList = [s[k]] := by
  rw [ByteArray.data_extract, Array.toList_extract, List.extract_eq_take_drop, List.drop_eq_getElem_cons (by simpa using h)]
  simp
  rfl
theorem u8_eq {b : UInt8} {n : Nat} (hn : n < 256) (h : b.toNat = n) : b = UInt8.ofNat n := by
  apply UInt8.toNat_inj.1
  rw [h, UInt8.toNat_ofNat']
  omega
def Wr (s : ByteArray) (k : Nat) (O : ByteArray) : Prop := O.data.toList = 34 :: (s.data.toList.take k).flatMap esc
theorem Wr.next {s O X : ByteArray} {k : Nat} (h : Wr s k O) (hk : k < s.size) (hx : X.data.toList = esc s[k]) : Wr s (k + 1) (O ++ X) := by
  unfold Wr at h ⊢
  rw [app_list, h, hx, take_next s k hk, flat_snoc]
  rfl
theorem Wr.size {s O : ByteArray} {k : Nat} (h : Wr s k O) (hk : k ≤ s.size) : O.size ≤ 2 * k + 1 := by
  have h1 := congrArg List.length h
  have h2 := flat_len (s.data.toList.take k)
  rw [List.length_take, len_list] at h2
  rw [len_list, List.length_cons] at h1
  omega
end Go.Proofs.Ytnefnnoleeeedaa
namespace Go.Proofs.Ytnefnnoleeeedaa
open Go.RowKit
def Rd (W : List UInt8) (I O : ByteArray) : Prop := um W false = (um I.data.toList false).map (O.data.toList ++ ·)
theorem cons_one (I : ByteArray) (h : 0 < I.size) : I.data.toList = I[0] :: (I.extract 1 I.size).data.toList := by
  have e : (I.extract 1 I.size).data.toList = I.data.toList.drop 1 := by
    rw [ByteArray.data_extract, Array.toList_extract, List.extract_eq_take_drop]
    exact List.take_of_length_le (by simp)
  rw [e]
  have h' : 0 < I.data.toList.length := by simpa using h
  conv => lhs; rw [← List.drop_zero (l := I.data.toList), List.drop_eq_getElem_cons h']
  rfl
theorem cons_two (I : ByteArray) (h : 1 < I.size) : I.data.toList = I[0] :: I[1] :: (I.extract 2 I.size).data.toList := by
  have e : (I.extract 2 I.size).data.toList = I.data.toList.drop 2 := by
    rw [ByteArray.data_extract, Array.toList_extract, List.extract_eq_take_drop]
    exact List.take_of_length_le (by simp)
  rw [e]
  have h' : 0 < I.data.toList.length := by have : 0 < I.size := by omega
                                           simpa using this
  have h'' : 1 < I.data.toList.length := by simpa using h
  conv => lhs; rw [← List.drop_zero (l := I.data.toList), List.drop_eq_getElem_cons h', Nat.zero_add, List.drop_eq_getElem_cons h'']
  rfl
theorem rest_size (I : ByteArray) (k : Nat) : (I.extract k I.size).size = I.size - k := by rw [ByteArray.size_extract]; omega
theorem Rd.low {W : List UInt8} {I O : ByteArray} (h : Rd W I O) (h0 : 0 < I.size) (hb : I[0].toNat < 32 ∨ I[0].toNat = 34) : um W false = none := by
  unfold Rd at h
  rw [h, cons_one I h0, um_low _ (by rw [ne_eq, ← UInt8.toNat_inj]; intro e; rw [e] at hb; revert hb; decide) (by rw [UInt8.lt_iff_toNat_lt, ← UInt8.toNat_inj]; exact hb)]
  rfl
theorem Rd.byte {W : List UInt8} {I O : ByteArray} (h : Rd W I O) (h0 : 0 < I.size) (hb : I[0].toNat ≠ 92) (hc : ¬ (I[0].toNat < 32 ∨ I[0].toNat = 34)) : Rd W (I.extract 1 I.size) (O ++ I.extract 0 1) := by
  unfold Rd at h ⊢
  have e : (I.extract 0 1).data.toList = [I[0]] := ext_one I 0 h0
  rw [app_list, e]
  refine um_pre (b := I[0]) (sl := false) ?_ (um_byte _ (by rw [ne_eq, ← UInt8.toNat_inj]; exact hb) (by rw [UInt8.lt_iff_toNat_lt, ← UInt8.toNat_inj]; exact hc))
  rw [h, ← cons_one I h0]
theorem Rd.short {W : List UInt8} {I O : ByteArray} (h : Rd W I O) (h0 : I.size = 1) (hb : I[0].toNat = 92) : um W false = none := by
  unfold Rd at h
  have e : (I.extract 1 I.size).data.toList = [] := List.eq_nil_of_length_eq_zero (by rw [len_list, rest_size]; omega)
  rw [h, cons_one I (by omega), e, u8_eq (by decide) hb]
  rfl
theorem Rd.sign {W : List UInt8} {I O : ByteArray} (h : Rd W I O) (h0 : 1 < I.size) (hb : I[0].toNat = 92) (hs : mb I[1] = true) {X : ByteArray} (hx : X.data.toList = [mn I[1]]) : Rd W (I.extract 2 I.size) (O ++ X) := by
  unfold Rd at h ⊢
  rw [app_list, hx]
  refine um_pre (b := I[1]) (sl := true) ?_ (um_sign _ hs)
  have e : um I.data.toList false = um (I[1] :: (I.extract 2 I.size).data.toList) true := by
    rw [cons_two I h0, u8_eq (by decide) hb]
    exact um_slash _
  rw [h, e]
theorem Rd.nosign {W : List UInt8} {I O : ByteArray} (h : Rd W I O) (h0 : 1 < I.size) (hb : I[0].toNat = 92) (hs : mb I[1] = false) : um W false = none := by
  unfold Rd at h
  have e : um I.data.toList false = um (I[1] :: (I.extract 2 I.size).data.toList) true := by
    rw [cons_two I h0, u8_eq (by decide) hb]
    exact um_slash _
  rw [h, e, um_nosign _ hs]
  rfl
theorem Rd.done {W : List UInt8} {I O : ByteArray} (h : Rd W I O) (h0 : I.size = 0) : um W false = some O.data.toList := by
  unfold Rd at h
  have e : I.data.toList = [] := List.eq_nil_of_length_eq_zero (by rw [len_list]; exact h0)
  rw [h, e]
  simp [um_end]
def uq (l : List UInt8) : Ending := match unq l with
  | some o => .returned (.tuple #[.string ⟨o.toArray⟩, .int .i64 0])
  | none => .returned (.tuple #[.string ⟨#[]⟩, .int .i64 22])
theorem uq_none {l : List UInt8} (h : unq l = none) : Ending.returned (.tuple #[.string ⟨#[]⟩, .int .i64 22]) = uq l := by unfold uq; rw [h]
theorem uq_some {l : List UInt8} {O : ByteArray} (h : unq l = some O.data.toList) : Ending.returned (.tuple #[.string O, .int .i64 0]) = uq l := by
  unfold uq; rw [h]
def mid (s : ByteArray) : ByteArray := s.extract 1 (s.size - 1)
theorem mid_size (s : ByteArray) : (mid s).size = s.size - 2 := by unfold mid; rw [ByteArray.size_extract]; omega
theorem unq_mid (s : ByteArray) (h : 2 ≤ s.size) (h0 : s[0].toNat = 34) (h1 : s[s.size - 1].toNat = 34) : unq s.data.toList = um (mid s).data.toList false := by
  unfold unq
  have e : (mid s).data.toList = (s.data.toList.drop 1).take (s.data.toList.length - 2) := by
    unfold mid
    rw [ByteArray.data_extract, Array.toList_extract, List.extract_eq_take_drop, len_list]
    rfl
  have g0 : s.data.toList.getD 0 0 = 34 := by
    have := gb_of s 0 (by omega)
    unfold gb at this
    rw [← UInt8.toNat_inj, ← this, h0]; rfl
  have g1 : s.data.toList.getD (s.data.toList.length - 1) 0 = 34 := by
    rw [len_list]
    have := gb_of s (s.size - 1) (by omega)
    unfold gb at this
    rw [← UInt8.toNat_inj, ← this, h1]; rfl
  rw [if_neg (by rw [g0, g1, len_list]; simp; omega), e]
theorem unq_bad (s : ByteArray) (h : s.size < 2 ∨ gb s 0 ≠ 34 ∨ gb s (s.size - 1) ≠ 34) : unq s.data.toList = none := by
  unfold unq
  rw [if_pos]
  rw [len_list]
  unfold gb at h
  rcases h with h | h | h
  · exact .inl h
  · exact .inr (.inl fun e => h (by rw [e]; rfl))
  · exact .inr (.inr fun e => h (by rw [e]; rfl))
set_option maxHeartbeats 2000000 in
theorem runquote_bad (s : ByteArray) (w : World) (hs : s.size ≤ 100000) (h : s.size < 2 ∨ gb s 0 ≠ 34 ∨ gb s (s.size - 1) ≠ 34) :
    Calls Try.prog 59 #[.string s] w fun e w' => e = uq s.data.toList ∧ w = w' := by
  have HU := Lib.hid (unq_bad s h)
  by_cases h1 : s.size < 2
  · have h1z : (s.size : Int) < 2 := by omega
    clear h
    go_enter Try.func59, Try.ntmps59
    go_wp2_with fail
    go_ret2
    exact ⟨uq_none HU.out, rfl⟩
  have h1z : ¬ (s.size : Int) < 2 := by omega
  have g0 := gb_of s 0 (by omega)
  have g1 := gb_of s (s.size - 1) (by omega)
  by_cases h2 : gb s 0 = 34
  · have q0 : (((s[0]'(by omega)).toNat : Int) != 34) = false := by simp; omega
    have q1 : (((s[s.size - 1]'(by omega)).toNat : Int) != 34) = true := by simp; omega
    have hx : s.size - 1 < s.size := by omega
    clear h g0 g1 h2
    go_enter Try.func59, Try.ntmps59
    go_wp2_with fail
    go_ret2
    exact ⟨uq_none HU.out, rfl⟩
  · have q0 : (((s[0]'(by omega)).toNat : Int) != 34) = true := by simp; omega
    have hx : 0 < s.size := by omega
    clear h g0 g1 h2
    go_enter Try.func59, Try.ntmps59
    go_wp2_with fail
    go_ret2
    exact ⟨uq_none HU.out, rfl⟩
set_option maxHeartbeats 4000000 in
theorem runquote_good (s : ByteArray) (w : World) (hs : s.size ≤ 100000) (h2 : 2 ≤ s.size) (h0 : gb s 0 = 34) (h1 : gb s (s.size - 1) = 34) :
    Calls Try.prog 59 #[.string s] w fun e w' => e = uq s.data.toList ∧ w = w' := by
  have g0 := gb_of s 0 (by omega)
  have g1 := gb_of s (s.size - 1) (by omega)
  have q0 : (((s[0]'(by omega)).toNat : Int) != 34) = false := by simp; omega
  have q1 : (((s[s.size - 1]'(by omega)).toNat : Int) != 34) = false := by simp; omega
  have hx : s.size - 1 < s.size := by omega
  have HU := Lib.hid (unq_mid s h2 (by omega) (by omega))
  have h1z : ¬ (s.size : Int) < 2 := by omega
  clear h0 h1 g0 g1
  have hms := mid_size s
  have HS : Rd (mid s).data.toList (mid s) ⟨#[]⟩ := by unfold Rd; simp
  have HM := Lib.hid hms
  clear hms
  go_enter Try.func59, Try.ntmps59
  go_wp2_with fail
  go_loopg [5, 6] s.size (fun kx o a wr => ∃ (I O : ByteArray), o = .string O ∧ a = .string I ∧ I.size ≤ kx ∧ I.size + O.size ≤ 100000 ∧ Hid (Rd (mid s).data.toList I O) ∧ Hid (w = wr))
  case atStart => exact ⟨mid s, _, rfl, rfl, by rw [HM.out]; omega, by rw [HM.out]; show _ + 0 ≤ _; omega, HS, rfl⟩
  case round =>
    clear HM HS q0 q1
    obtain ⟨I, O, rfl, rfl, hkx, hz, HR, HW⟩ := hrel
    obtain rfl := HW.out
    by_cases hlt : 0 < I.size
    · have hlz : (I.size : Int) > 0 := by omega
      have hr1 := rest_size I 1
      have hr2 := rest_size I 2
      by_cases h32 : (I[0]'hlt).toNat < 32
      · have c1 : ((I[0]'hlt).toNat : Int) < 32 := by omega
        have HF := Lib.hid (HR.out.low hlt (.inl h32))
        clear h32 hr1 hr2
        go_wp2_with fail
        go_ret2
        exact ⟨uq_none (HU.out.trans HF.out), rfl⟩
      have c1 : ¬ ((I[0]'hlt).toNat : Int) < 32 := by omega
      by_cases h34 : (I[0]'hlt).toNat = 34
      · have c2 : (((I[0]'hlt).toNat : Int) == 34) = true := by simp; omega
        have HF := Lib.hid (HR.out.low hlt (.inr h34))
        clear h32 h34 hr1 hr2
        go_wp2_with fail
        go_ret2
        exact ⟨uq_none (HU.out.trans HF.out), rfl⟩
      have c2 : (((I[0]'hlt).toNat : Int) == 34) = false := by simp; omega
      by_cases h92 : (I[0]'hlt).toNat = 92
      · have c3 : (((I[0]'hlt).toNat : Int) != 92) = false := by simp; omega
        by_cases h1 : 1 < I.size
        · have h1z : ¬ (I.size : Int) < 2 := by omega
          by_cases k110 : (I[1]'h1).toNat = 110
          · have d110 : (((I[1]'h1).toNat : Int) == 110) = true := by simp; omega
            have e1 := u8_eq (by decide) k110
            have HN := Lib.hid (HR.out.sign (X := ⟨#[10]⟩) h1 h92 (by rw [e1]; rfl) (by rw [e1]; rfl))
            have HI := Lib.hid hr2
            clear h32 h34 h92 k110 e1 hr1 hr2 
            go_wp2_with fail
            go_roundg (I.size - 2)
            case measure => omega
            case rel => exact ⟨_, _, rfl, rfl, by rw [HI.out]; exact Nat.le_refl _, by rw [HI.out, ByteArray.size_append]; show _ + (_ + 1) ≤ _; omega, HN.out, rfl⟩
          have d110 : (((I[1]'h1).toNat : Int) == 110) = false := by simp; omega
          by_cases k116 : (I[1]'h1).toNat = 116
          · have d116 : (((I[1]'h1).toNat : Int) == 116) = true := by simp; omega
            have e1 := u8_eq (by decide) k116
            have HN := Lib.hid (HR.out.sign (X := ⟨#[9]⟩) h1 h92 (by rw [e1]; rfl) (by rw [e1]; rfl))
            have HI := Lib.hid hr2
            clear h32 h34 h92 k116 e1 hr1 hr2 k110
            go_wp2_with fail
            go_roundg (I.size - 2)
            case measure => omega
            case rel => exact ⟨_, _, rfl, rfl, by rw [HI.out]; exact Nat.le_refl _, by rw [HI.out, ByteArray.size_append]; show _ + (_ + 1) ≤ _; omega, HN.out, rfl⟩
          have d116 : (((I[1]'h1).toNat : Int) == 116) = false := by simp; omega
          by_cases k34 : (I[1]'h1).toNat = 34
          · have d34 : (((I[1]'h1).toNat : Int) == 34) = true := by simp; omega
            have e1 := u8_eq (by decide) k34
            have HN := Lib.hid (HR.out.sign (X := ⟨#[34]⟩) h1 h92 (by rw [e1]; rfl) (by rw [e1]; rfl))
            have HI := Lib.hid hr2
            clear h32 h34 h92 k34 e1 hr1 hr2 k110 k116
            go_wp2_with fail
            go_roundg (I.size - 2)
            case measure => omega
            case rel => exact ⟨_, _, rfl, rfl, by rw [HI.out]; exact Nat.le_refl _, by rw [HI.out, ByteArray.size_append]; show _ + (_ + 1) ≤ _; omega, HN.out, rfl⟩
          have d34 : (((I[1]'h1).toNat : Int) == 34) = false := by simp; omega
          by_cases k92 : (I[1]'h1).toNat = 92
          · have d92 : (((I[1]'h1).toNat : Int) == 92) = true := by simp; omega
            have e1 := u8_eq (by decide) k92
            have HN := Lib.hid (HR.out.sign (X := ⟨#[92]⟩) h1 h92 (by rw [e1]; rfl) (by rw [e1]; rfl))
            have HI := Lib.hid hr2
            clear h32 h34 h92 k92 e1 hr1 hr2 k110 k116 k34
            go_wp2_with fail
            go_roundg (I.size - 2)
            case measure => omega
            case rel => exact ⟨_, _, rfl, rfl, by rw [HI.out]; exact Nat.le_refl _, by rw [HI.out, ByteArray.size_append]; show _ + (_ + 1) ≤ _; omega, HN.out, rfl⟩
          have d92 : (((I[1]'h1).toNat : Int) == 92) = false := by simp; omega
          have hsb : mb (I[1]'h1) = false := by
            simp only [mb, Bool.or_eq_false_iff, beq_eq_false_iff_ne, ne_eq, ← UInt8.toNat_inj]
            exact ⟨⟨⟨k110, k116⟩, k34⟩, k92⟩
          have HF := Lib.hid (HR.out.nosign h1 h92 hsb)
          clear h32 h34 h92 hr1 hr2 k110 k116 k34 k92 hsb
          go_wp2_with fail
          go_ret2
          exact ⟨uq_none (HU.out.trans HF.out), rfl⟩
        · have h1z : (I.size : Int) < 2 := by omega
          have HF := Lib.hid (HR.out.short (by omega) h92)
          clear h32 h34 h92 hr1 hr2
          go_wp2_with fail
          go_ret2
          exact ⟨uq_none (HU.out.trans HF.out), rfl⟩
      · have c3 : (((I[0]'hlt).toNat : Int) != 92) = true := by simp; omega
        have HN := Lib.hid (HR.out.byte hlt h92 (by omega))
        have HI := Lib.hid hr1
        have he : (I.extract 0 1).size = 1 := by rw [ByteArray.size_extract]; omega
        have HE := Lib.hid he
        clear h32 h34 h92 hr1 hr2 he
        go_wp2_with fail
        go_roundg (I.size - 1)
        case measure => omega
        case rel => exact ⟨_, _, rfl, rfl, by rw [HI.out]; exact Nat.le_refl _, by rw [HI.out, ByteArray.size_append, HE.out]; omega, HN.out, rfl⟩
    · have hlz : ¬ (I.size : Int) > 0 := by omega
      have HF := Lib.hid (HR.out.done (by omega))
      go_wp2_with fail
      go_ret2
      exact ⟨uq_some (HU.out.trans HF.out), rfl⟩
theorem runquote_any (s : ByteArray) (w : World) (hs : s.size ≤ 100000) :
    Calls Try.prog 59 #[.string s] w fun e w' => e = uq s.data.toList ∧ w = w' := by
  by_cases h : s.size < 2 ∨ gb s 0 ≠ 34 ∨ gb s (s.size - 1) ≠ 34
  · exact runquote_bad s w hs h
  · exact runquote_good s w hs (by omega) (by omega) (by omega)
end Go.Proofs.Ytnefnnoleeeedaa
namespace Go.Proofs.Ytnefnnoleeeedaa
open Go.RowKit
end Go.Proofs.Ytnefnnoleeeedaa
namespace Go.Proofs.Ytnefnnoleeeedaa
open Go.RowKit
def Rp (W : List UInt8) (k : Nat) (sl : Bool) (O : List UInt8) : Prop := um W false = (um (W.drop k) sl).map (O ++ ·)
theorem drop_cons (T : ByteArray) (k : Nat) (h : k < T.size) : T.data.toList.drop k = T[k] :: T.data.toList.drop (k + 1) := by
  rw [List.drop_eq_getElem_cons (by simpa using h)]; rfl
theorem Rp.first (W : List UInt8) : Rp W 0 false [] := by unfold Rp; simp
theorem Rp.low {T : ByteArray} {k : Nat} {O : List UInt8} (h : Rp T.data.toList k false O) (hk : k < T.size) (hb : T[k].toNat < 32 ∨ T[k].toNat = 34) : um T.data.toList false = none := by
  unfold Rp at h
  rw [h, drop_cons T k hk, um_low _ (by rw [ne_eq, ← UInt8.toNat_inj]; intro e; rw [e] at hb; revert hb; decide) (by rw [UInt8.lt_iff_toNat_lt, ← UInt8.toNat_inj]; exact hb)]
  rfl
theorem Rp.byte {T : ByteArray} {k : Nat} {O : List UInt8} (h : Rp T.data.toList k false O) (hk : k < T.size) (hb : T[k].toNat ≠ 92) (hc : ¬ (T[k].toNat < 32 ∨ T[k].toNat = 34)) : Rp T.data.toList (k + 1) false (O ++ [T[k]]) := by
  unfold Rp at h ⊢
  rw [drop_cons T k hk] at h
  exact um_pre h (um_byte _ (by rw [ne_eq, ← UInt8.toNat_inj]; exact hb) (by rw [UInt8.lt_iff_toNat_lt, ← UInt8.toNat_inj]; exact hc))
theorem Rp.done {T : ByteArray} {O : List UInt8} {sl : Bool} (h : Rp T.data.toList T.size sl O) : um T.data.toList false = if sl = true then none else some O := by
  unfold Rp at h
  rw [List.drop_of_length_le (by rw [len_list]; exact Nat.le_refl _), um_end] at h
  rw [h]
  cases sl <;> simp
end Go.Proofs.Ytnefnnoleeeedaa
namespace Go.Proofs.Ytnefnnoleeeedaa
open Go.RowKit
def Flag (w : World) (g : Nat) (c : Bool) : Prop := RowB w g 4 #[.bool c]
theorem Flag.put {w : World} {g : Nat} {c : Bool} (h : Flag w g c) (d : Bool) : Flag (w.setCell ⟨g, 0, none⟩ (.bool d)) g d := RowB.put h 0 _
def Far (st go : Bool → Int → Bool) (s : ByteArray) (k : Nat) (c : Bool) : Prop := runM st go false s.data.toList = k + runM st go c (s.data.toList.drop k)
theorem Far.first (st go : Bool → Int → Bool) (s : ByteArray) : Far st go s 0 false := by unfold Far; simp
theorem drop_cons' (T : ByteArray) (k : Nat) (h : k < T.size) : T.data.toList.drop k = T[k] :: T.data.toList.drop (k + 1) := by
  rw [List.drop_eq_getElem_cons (by simpa using h)]; rfl
theorem Far.next {st go : Bool → Int → Bool} {s : ByteArray} {k : Nat} {c : Bool} (h : Far st go s k c) (hk : k < s.size) (hg : go c s[k].toNat = true) : Far st go s (k + 1) (st c s[k].toNat) := by
  unfold Far at h ⊢
  rw [h, drop_cons' s k hk, runM_go hg]
  omega
theorem Far.stop {st go : Bool → Int → Bool} {s : ByteArray} {k : Nat} {c : Bool} (h : Far st go s k c) (hk : k < s.size) (hg : go c s[k].toNat = false) : runM st go false s.data.toList = k := by
  unfold Far at h
  rw [h, drop_cons' s k hk, runM_stop hg]
  rfl
theorem Far.done {st go : Bool → Int → Bool} {s : ByteArray} {c : Bool} (h : Far st go s s.size c) : runM st go false s.data.toList = s.size := by
  unfold Far at h
  rw [h, List.drop_of_length_le (by rw [len_list]; exact Nat.le_refl _)]
  rfl
end Go.Proofs.Ytnefnnoleeeedaa
namespace Go.Proofs.Ytnefnnoleeeedaa
open Go.RowKit
def keys : List (List UInt8) := [[100, 101, 102], [100, 121, 110], [101, 108, 115, 101], [102, 110], [105, 102], [105, 110, 112, 117, 116], [105, 110, 116], [108, 101, 116], [112, 114, 105, 110, 116], [114, 101, 116, 117, 114, 110], [115, 116, 114], [117, 115, 101], [119, 104, 105, 108, 101]]
def keyL (l : List UInt8) : Bool := keys.contains l
def Errs (w : World) : Prop := (∃ t p, w.cell? ⟨3, 0, none⟩ = some (.iface t p)) ∧ (∃ t p, w.cell? ⟨4, 0, none⟩ = some (.iface t p))
theorem Errs.below {w w' : World} (h : Errs w) (hb : Below w.heap.size w w') : Errs w' := by
  obtain ⟨⟨t, p, h1⟩, ⟨u, q, h2⟩⟩ := h
  exact ⟨⟨t, p, (hb.cell (World.block_lt_of_cell? _ _ h1)).trans h1⟩, ⟨u, q, (hb.cell (World.block_lt_of_cell? _ _ h2)).trans h2⟩⟩
def numOk (l : List UInt8) : Bool := match Lib.parseIntB 64 l with
  | .ok _ => true
  | _ => false
def tri (x : Nat × Nat × Nat) : Ending := .returned (.tuple #[.int .i64 x.1, .int .i64 x.2.1, .int .i64 x.2.2])
def wordL (l : List UInt8) : Nat × Nat × Nat := if keyL (l.take (wLen l)) = true then (2, wLen l, 0) else if wLen l > 40 then (0, 0, 26) else (1, wLen l, 0)
def numL (l : List UInt8) : Nat × Nat × Nat := if numOk (l.take (wLen l)) = true then (3, wLen l, 0) else (0, 0, 23)
def qLong (l : List UInt8) : Nat := min (1 + qLen (l.drop 1) + 1) l.length
def quotL (l : List UInt8) : Nat × Nat × Nat := if (unq (l.take (qLong l))).isSome = true then (4, qLong l, 0) else (0, 0, 22)
def signs : List UInt8 := [40, 41, 123, 125, 44, 59, 58, 46, 61, 43, 45, 42, 60]
def signL (l : List UInt8) : Nat × Nat × Nat := if Lib.hasPrefix l [61, 61] = true then (5, 2, 0) else if 0 ≤ Lib.indexByte signs (l.getD 0 0) then (5, 1, 0) else (0, 0, 21)
theorem wLen_le (l : List UInt8) : wLen l ≤ l.length := runM_le _ _ _ _
theorem tri_eq {x : Nat × Nat × Nat} {a b c : Nat} (h : x = (a, b, c)) : Ending.returned (.tuple #[.int .i64 (a : Int), .int .i64 (b : Int), .int .i64 (c : Int)]) = tri x := by rw [h]; rfl
end Go.Proofs.Ytnefnnoleeeedaa
namespace Go.Proofs.Ytnefnnoleeeedaa
open Go.RowKit
set_option maxHeartbeats 400000 in
theorem more_any (b : Int) (w : World) : Calls Try.prog 85 #[.int .u8 b] w fun e w' => e = .returned (.bool (decide (128 ≤ b) && decide (b < 192))) ∧ w = w' := by
  go_enter Try.func85, Try.ntmps85
  go_wp2
  all_goals
    go_ret
    exact ⟨rb (by simp <;> omega), rfl⟩
set_option maxHeartbeats 1000000 in
set_option maxRecDepth 100000 in
theorem rnext_ascii (s : ByteArray) (k : Nat) (w : World) (_hs : s.size ≤ 100000) (hk : k < s.size) (hb : gb s k < 128) :
    Calls Try.prog 58 #[.string s, .int .i64 k] w fun e w' => e = trip (tl s k) ∧ w = w' := by
  have hg := gb_of s k hk
  have h0 := gb_lt s k
  have h3 : ((s[k]'hk).toNat : Int) < 256 := by omega
  have hb' : ((s[k]'hk).toNat : Int) < 128 := by omega
  have HG := Lib.hid hg
  clear hg
  go_enter Try.func58, Try.ntmps58
  go_wp2
  go_ret3
  exact ⟨trip_good (x := gb s k) (n := 1) (by rw [dec_tl, dN_ascii _ _ _ _ _ hb]) (.inr hb) (by rw [HG.out]) rfl, rfl⟩
set_option maxHeartbeats 1000000 in
set_option maxRecDepth 100000 in
theorem rnext_none (s : ByteArray) (k : Nat) (w : World) (_hs : s.size ≤ 100000) (hk : k < s.size) (hb : 128 ≤ gb s k) (hb' : gb s k < 192 ∨ 248 ≤ gb s k) :
    Calls Try.prog 58 #[.string s, .int .i64 k] w fun e w' => e = trip (tl s k) ∧ w = w' := by
  have hg := gb_of s k hk
  have h0 := gb_lt s k
  have h3 : ((s[k]'hk).toNat : Int) < 256 := by omega
  have hd : dec (tl s k) = (65533, 1) := by rw [dec_tl, dN_none _ _ _ _ _ hb hb' (gb_lt s k)]
  have HD := Lib.hid hd
  rcases hb' with hb' | hb'
  · have h1 : 128 ≤ ((s[k]'hk).toNat : Int) := by omega
    have h2 : ((s[k]'hk).toNat : Int) < 192 := by omega
    clear hg hd
    go_enter Try.func58, Try.ntmps58
    go_wp2
    go_ret3
    exact ⟨trip_bad HD.out, rfl⟩
  · have h1 : 248 ≤ ((s[k]'hk).toNat : Int) := by omega
    clear hg hd
    go_enter Try.func58, Try.ntmps58
    go_wp2
    go_ret3
    exact ⟨trip_bad HD.out, rfl⟩
theorem more_yes (b : Int) (w : World) (h0 : 128 ≤ b) (h1 : b < 192) : Calls Try.prog 85 #[.int .u8 b] w fun e w' => e = .returned (.bool true) ∧ w = w' :=
  (more_any b w).mono fun e w' ⟨he, hw⟩ => ⟨by rw [he, decide_eq_true h0, decide_eq_true h1]; rfl, hw⟩
theorem more_no (b : Int) (w : World) (h : b < 128 ∨ 192 ≤ b) : Calls Try.prog 85 #[.int .u8 b] w fun e w' => e = .returned (.bool false) ∧ w = w' :=
  (more_any b w).mono fun e w' ⟨he, hw⟩ => ⟨by
    rw [he]
    rcases h with h | h
    · rw [decide_eq_false (by omega)]; rfl
    · rw [decide_eq_false (p := b < 192) (by omega), Bool.and_false], hw⟩
def acc (s : ByteArray) (k : Nat) (f0 : Int) : Nat → Int
  | 0 => f0
  | j + 1 => acc s k f0 j * 64 + gb s (k + (j + 1)) - 128
def St (s : ByteArray) (k : Nat) (f0 : Int) (j : Nat) (v : Int) : Prop := v = acc s k f0 (j - 1) ∧ ∀ t, 1 ≤ t → t < j → 128 ≤ gb s (k + t) ∧ gb s (k + t) < 192
theorem St.first (s : ByteArray) (k : Nat) (f0 : Int) : St s k f0 1 f0 := ⟨rfl, fun t h1 h2 => by omega⟩
theorem St.next {s : ByteArray} {k j : Nat} {f0 v : Int} (h : St s k f0 j v) (hj : 1 ≤ j) (h1 : 128 ≤ gb s (k + j)) (h2 : gb s (k + j) < 192) {x : Int} (hx : x = v * 64 + gb s (k + j) - 128) : St s k f0 (j + 1) x := by
  obtain ⟨j, rfl⟩ : ∃ i, j = i + 1 := ⟨j - 1, by omega⟩
  refine ⟨by rw [hx, h.1]; rfl, fun t a b => ?_⟩
  by_cases e : t = j + 1
  · subst e; exact ⟨h1, h2⟩
  · exact h.2 t a (by omega)
theorem St.bound {s : ByteArray} {k j : Nat} {f0 v : Int} (h : St s k f0 j v) (h0 : 0 ≤ f0) (h1 : f0 < 32) (hj : 1 ≤ j) (hj' : j ≤ 4) : 0 ≤ v ∧ v < 8388608 := by
  obtain ⟨rfl, hc⟩ := h
  rcases (by omega : j = 1 ∨ j = 2 ∨ j = 3 ∨ j = 4) with rfl | rfl | rfl | rfl
  · simp [acc]; omega
  · have c1 := hc 1 (by omega) (by omega)
    simp [acc]; omega
  · have c1 := hc 1 (by omega) (by omega)
    have c2 := hc 2 (by omega) (by omega)
    simp [acc]; omega
  · have c1 := hc 1 (by omega) (by omega)
    have c2 := hc 2 (by omega) (by omega)
    have c3 := hc 3 (by omega) (by omega)
    simp [acc]; omega
theorem two_bad {s : ByteArray} {k j : Nat} (hb : 192 ≤ gb s k) (hb' : gb s k < 224) (h1 : 1 ≤ j) (h2 : j < 2) (h : gb s (k + j) < 128 ∨ 192 ≤ gb s (k + j)) : dec (tl s k) = (65533, 1) := by
  rw [dec_tl]
  have q : gb s (k + 1) < 128 ∨ 192 ≤ gb s (k + 1) := by
    rcases (by omega : j = 1) with rfl <;> omega
  exact dN_two_bad _ _ _ _ _ hb hb' (.inr q) (gb_lt s _)
theorem two_end {s : ByteArray} {k : Nat} {v : Int} (hb : 192 ≤ gb s k) (hb' : gb s k < 224) (hn : k + 2 ≤ s.size) (h : St s k ((gb s k : Int) - 192) 2 v) :
    dec (tl s k) = if fits 2 v = true then (v.toNat, 2) else (65533, 1) := by
  rw [dec_tl]
  obtain ⟨rfl, hc⟩ := h
  have c1 := hc 1 (by omega) (by omega)
  exact dN_two _ _ _ _ _ hb hb' (by omega) c1.1 c1.2
set_option maxHeartbeats 2000000 in
set_option maxRecDepth 100000 in
theorem rnext_two (s : ByteArray) (k : Nat) (w : World) (hs : s.size ≤ 100000) (hk : k < s.size) (hb : 192 ≤ gb s k) (hb' : gb s k < 224) :
    Calls Try.prog 58 #[.string s, .int .i64 k] w fun e w' => e = trip (tl s k) ∧ w = w' := by
  have hg := gb_of s k hk
  have h1 : 192 ≤ ((s[k]'hk).toNat : Int) := by omega
  have h2 : ((s[k]'hk).toNat : Int) < 224 := by omega
  by_cases hn : s.size < k + 2
  · have hd : dec (tl s k) = (65533, 1) := by rw [dec_tl, dN_two_bad _ _ _ _ _ hb hb' (.inl (by omega)) (gb_lt s _)]
    have HD := Lib.hid hd
    have hn' : (s.size : Int) - k < 2 := by omega
    clear hg hd
    go_enter Try.func58, Try.ntmps58
    go_wp2
    go_ret3
    exact ⟨trip_bad HD.out, rfl⟩
  · have hn' : ¬ ((s.size : Int) - k < 2) := by omega
    have HG := Lib.hid hg
    clear hg
    go_enter Try.func58, Try.ntmps58
    go_wp2_with fail
    go_loopg [9, 11] 2 (fun kx x i wr => ∃ (j : Nat) (v : Int), x = .int .i64 v ∧ i = .int .i64 j ∧ 1 ≤ j ∧ j ≤ 2 ∧ 2 - j ≤ kx ∧ 0 ≤ v ∧ v < 8388608 ∧ Hid (St s k ((gb s k : Int) - 192) j v) ∧ Hid (w = wr))
    case atStart => exact ⟨1, _, rfl, rfl, by omega, by omega, by omega, by omega, by omega, by rw [HG.out]; exact St.first _ _ _, rfl⟩
    case round =>
      obtain ⟨j, v, rfl, rfl, hj1, hj2, hkx, hv0, hv1, HS, HW⟩ := hrel
      obtain rfl := HW.out
      by_cases hlt : j < 2
      · have hkj : k + j < s.size := by omega
        have hgj := gb_of s (k + j) hkj
        have hlj := gb_lt s (k + j)
        have h4 : ((s[k + j]'hkj).toNat : Int) < 256 := by omega
        by_cases hc : 128 ≤ gb s (k + j) ∧ gb s (k + j) < 192
        · have c1 : 128 ≤ ((s[k + j]'hkj).toNat : Int) := by omega
          have c2 : ((s[k + j]'hkj).toNat : Int) < 192 := by omega
          have HGJ := Lib.hid hgj
          clear hgj hlj
          go_wp2_with (go_at_call 85; refine (more_yes _ _ (by omega) (by omega)).mono ?_; rintro e w' ⟨rfl, rfl⟩)
          have hst : St s k ((gb s k : Int) - 192) (j + 1) (v * 64 + (s[k + j]'hkj).toNat - 128) := HS.out.next hj1 hc.1 hc.2 (by rw [HGJ.out])
          have hbd := hst.bound (by omega) (by omega) (by omega) (by omega)
          go_roundg (2 - (j + 1))
          case measure => omega
          case rel => exact ⟨j + 1, _, rfl, by go_num, by omega, by omega, by omega, hbd.1, hbd.2, hst, rfl⟩
        · have hd := two_bad hb hb' hj1 hlt (by omega)
          have HD := Lib.hid hd
          clear hd
          by_cases c1 : 128 ≤ gb s (k + j)
          · have c2 : 192 ≤ ((s[k + j]'hkj).toNat : Int) := by omega
            clear hgj hlj
            go_wp2_with (go_at_call 85; refine (more_no _ _ (by omega)).mono ?_; rintro e w' ⟨rfl, rfl⟩)
            go_ret3
            exact ⟨trip_bad HD.out, rfl⟩
          · have c2 : ((s[k + j]'hkj).toNat : Int) < 128 := by omega
            clear hgj hlj
            go_wp2_with (go_at_call 85; refine (more_no _ _ (by omega)).mono ?_; rintro e w' ⟨rfl, rfl⟩)
            go_ret3
            exact ⟨trip_bad HD.out, rfl⟩
      · obtain rfl : j = 2 := by omega
        have hd := two_end hb hb' (by omega) HS.out
        by_cases f1 : v < 128
        · have f : fits 2 v = false := by simp [fits]; omega
          rw [f] at hd
          have HD := Lib.hid hd
          clear hd f
          go_wp2
          go_ret3
          exact ⟨trip_bad HD.out, rfl⟩
        by_cases f2 : v > 1114111
        · have f : fits 2 v = false := by simp [fits]; omega
          rw [f] at hd
          have HD := Lib.hid hd
          clear hd f
          go_wp2
          go_ret3
          exact ⟨trip_bad HD.out, rfl⟩
        by_cases f3 : 55296 ≤ v ∧ v < 57344
        · have f : fits 2 v = false := by simp [fits]; omega
          obtain ⟨f3, f4⟩ := f3
          rw [f] at hd
          have HD := Lib.hid hd
          clear hd f
          go_wp2
          go_ret3
          exact ⟨trip_bad HD.out, rfl⟩
        · have f : fits 2 v = true := by simp [fits]; omega
          rw [f] at hd
          have HD := Lib.hid hd
          clear hd f
          by_cases f4 : 55296 ≤ v
          · have f5 : ¬ v < 57344 := by omega
            clear f3
            go_wp2
            go_ret3
            exact ⟨trip_good (x := v.toNat) (n := 2) HD.out (.inl (by omega)) (by omega) rfl, rfl⟩
          · clear f3
            go_wp2
            go_ret3
            exact ⟨trip_good (x := v.toNat) (n := 2) HD.out (.inl (by omega)) (by omega) rfl, rfl⟩
theorem three_bad {s : ByteArray} {k j : Nat} (hb : 224 ≤ gb s k) (hb' : gb s k < 240) (h1 : 1 ≤ j) (h2 : j < 3) (h : gb s (k + j) < 128 ∨ 192 ≤ gb s (k + j)) : dec (tl s k) = (65533, 1) := by
  rw [dec_tl]
  have q : gb s (k + 1) < 128 ∨ 192 ≤ gb s (k + 1) ∨ gb s (k + 2) < 128 ∨ 192 ≤ gb s (k + 2) := by
    rcases (by omega : j = 1 ∨ j = 2) with rfl | rfl <;> omega
  exact dN_three_bad _ _ _ _ _ hb hb' (.inr q) (gb_lt s _) (gb_lt s _)
theorem three_end {s : ByteArray} {k : Nat} {v : Int} (hb : 224 ≤ gb s k) (hb' : gb s k < 240) (hn : k + 3 ≤ s.size) (h : St s k ((gb s k : Int) - 224) 3 v) :
    dec (tl s k) = if fits 3 v = true then (v.toNat, 3) else (65533, 1) := by
  rw [dec_tl]
  obtain ⟨rfl, hc⟩ := h
  have c1 := hc 1 (by omega) (by omega)
  have c2 := hc 2 (by omega) (by omega)
  exact dN_three _ _ _ _ _ hb hb' (by omega) c1.1 c1.2 c2.1 c2.2
set_option maxHeartbeats 2000000 in
set_option maxRecDepth 100000 in
theorem rnext_three (s : ByteArray) (k : Nat) (w : World) (hs : s.size ≤ 100000) (hk : k < s.size) (hb : 224 ≤ gb s k) (hb' : gb s k < 240) :
    Calls Try.prog 58 #[.string s, .int .i64 k] w fun e w' => e = trip (tl s k) ∧ w = w' := by
  have hg := gb_of s k hk
  have h1 : 224 ≤ ((s[k]'hk).toNat : Int) := by omega
  have h2 : ((s[k]'hk).toNat : Int) < 240 := by omega
  by_cases hn : s.size < k + 3
  · have hd : dec (tl s k) = (65533, 1) := by rw [dec_tl, dN_three_bad _ _ _ _ _ hb hb' (.inl (by omega)) (gb_lt s _) (gb_lt s _)]
    have HD := Lib.hid hd
    have hn' : (s.size : Int) - k < 3 := by omega
    clear hg hd
    go_enter Try.func58, Try.ntmps58
    go_wp2
    go_ret3
    exact ⟨trip_bad HD.out, rfl⟩
  · have hn' : ¬ ((s.size : Int) - k < 3) := by omega
    have HG := Lib.hid hg
    clear hg
    go_enter Try.func58, Try.ntmps58
    go_wp2_with fail
    go_loopg [9, 11] 3 (fun kx x i wr => ∃ (j : Nat) (v : Int), x = .int .i64 v ∧ i = .int .i64 j ∧ 1 ≤ j ∧ j ≤ 3 ∧ 3 - j ≤ kx ∧ 0 ≤ v ∧ v < 8388608 ∧ Hid (St s k ((gb s k : Int) - 224) j v) ∧ Hid (w = wr))
    case atStart => exact ⟨1, _, rfl, rfl, by omega, by omega, by omega, by omega, by omega, by rw [HG.out]; exact St.first _ _ _, rfl⟩
    case round =>
      obtain ⟨j, v, rfl, rfl, hj1, hj2, hkx, hv0, hv1, HS, HW⟩ := hrel
      obtain rfl := HW.out
      by_cases hlt : j < 3
      · have hkj : k + j < s.size := by omega
        have hgj := gb_of s (k + j) hkj
        have hlj := gb_lt s (k + j)
        have h4 : ((s[k + j]'hkj).toNat : Int) < 256 := by omega
        by_cases hc : 128 ≤ gb s (k + j) ∧ gb s (k + j) < 192
        · have c1 : 128 ≤ ((s[k + j]'hkj).toNat : Int) := by omega
          have c2 : ((s[k + j]'hkj).toNat : Int) < 192 := by omega
          have HGJ := Lib.hid hgj
          clear hgj hlj
          go_wp2_with (go_at_call 85; refine (more_yes _ _ (by omega) (by omega)).mono ?_; rintro e w' ⟨rfl, rfl⟩)
          have hst : St s k ((gb s k : Int) - 224) (j + 1) (v * 64 + (s[k + j]'hkj).toNat - 128) := HS.out.next hj1 hc.1 hc.2 (by rw [HGJ.out])
          have hbd := hst.bound (by omega) (by omega) (by omega) (by omega)
          go_roundg (3 - (j + 1))
          case measure => omega
          case rel => exact ⟨j + 1, _, rfl, by go_num, by omega, by omega, by omega, hbd.1, hbd.2, hst, rfl⟩
        · have hd := three_bad hb hb' hj1 hlt (by omega)
          have HD := Lib.hid hd
          clear hd
          by_cases c1 : 128 ≤ gb s (k + j)
          · have c2 : 192 ≤ ((s[k + j]'hkj).toNat : Int) := by omega
            clear hgj hlj
            go_wp2_with (go_at_call 85; refine (more_no _ _ (by omega)).mono ?_; rintro e w' ⟨rfl, rfl⟩)
            go_ret3
            exact ⟨trip_bad HD.out, rfl⟩
          · have c2 : ((s[k + j]'hkj).toNat : Int) < 128 := by omega
            clear hgj hlj
            go_wp2_with (go_at_call 85; refine (more_no _ _ (by omega)).mono ?_; rintro e w' ⟨rfl, rfl⟩)
            go_ret3
            exact ⟨trip_bad HD.out, rfl⟩
      · obtain rfl : j = 3 := by omega
        have hd := three_end hb hb' (by omega) HS.out
        by_cases f1 : v < 2048
        · have f : fits 3 v = false := by simp [fits]; omega
          rw [f] at hd
          have HD := Lib.hid hd
          clear hd f
          go_wp2
          go_ret3
          exact ⟨trip_bad HD.out, rfl⟩
        by_cases f2 : v > 1114111
        · have f : fits 3 v = false := by simp [fits]; omega
          rw [f] at hd
          have HD := Lib.hid hd
          clear hd f
          go_wp2
          go_ret3
          exact ⟨trip_bad HD.out, rfl⟩
        by_cases f3 : 55296 ≤ v ∧ v < 57344
        · have f : fits 3 v = false := by simp [fits]; omega
          obtain ⟨f3, f4⟩ := f3
          rw [f] at hd
          have HD := Lib.hid hd
          clear hd f
          go_wp2
          go_ret3
          exact ⟨trip_bad HD.out, rfl⟩
        · have f : fits 3 v = true := by simp [fits]; omega
          rw [f] at hd
          have HD := Lib.hid hd
          clear hd f
          by_cases f4 : 55296 ≤ v
          · have f5 : ¬ v < 57344 := by omega
            clear f3
            go_wp2
            go_ret3
            exact ⟨trip_good (x := v.toNat) (n := 3) HD.out (.inl (by omega)) (by omega) rfl, rfl⟩
          · clear f3
            go_wp2
            go_ret3
            exact ⟨trip_good (x := v.toNat) (n := 3) HD.out (.inl (by omega)) (by omega) rfl, rfl⟩
theorem four_bad {s : ByteArray} {k j : Nat} (hb : 240 ≤ gb s k) (hb' : gb s k < 248) (h1 : 1 ≤ j) (h2 : j < 4) (h : gb s (k + j) < 128 ∨ 192 ≤ gb s (k + j)) : dec (tl s k) = (65533, 1) := by
  rw [dec_tl]
  have q : gb s (k + 1) < 128 ∨ 192 ≤ gb s (k + 1) ∨ gb s (k + 2) < 128 ∨ 192 ≤ gb s (k + 2) ∨ gb s (k + 3) < 128 ∨ 192 ≤ gb s (k + 3) := by
    rcases (by omega : j = 1 ∨ j = 2 ∨ j = 3) with rfl | rfl | rfl <;> omega
  exact dN_four_bad _ _ _ _ _ hb hb' (.inr q) (gb_lt s _) (gb_lt s _) (gb_lt s _)
theorem four_end {s : ByteArray} {k : Nat} {v : Int} (hb : 240 ≤ gb s k) (hb' : gb s k < 248) (hn : k + 4 ≤ s.size) (h : St s k ((gb s k : Int) - 240) 4 v) :
    dec (tl s k) = if fits 4 v = true then (v.toNat, 4) else (65533, 1) := by
  rw [dec_tl]
  obtain ⟨rfl, hc⟩ := h
  have c1 := hc 1 (by omega) (by omega)
  have c2 := hc 2 (by omega) (by omega)
  have c3 := hc 3 (by omega) (by omega)
  exact dN_four _ _ _ _ _ hb hb' (by omega) c1.1 c1.2 c2.1 c2.2 c3.1 c3.2
set_option maxHeartbeats 2000000 in
set_option maxRecDepth 100000 in
theorem rnext_four (s : ByteArray) (k : Nat) (w : World) (hs : s.size ≤ 100000) (hk : k < s.size) (hb : 240 ≤ gb s k) (hb' : gb s k < 248) :
    Calls Try.prog 58 #[.string s, .int .i64 k] w fun e w' => e = trip (tl s k) ∧ w = w' := by
  have hg := gb_of s k hk
  have h1 : 240 ≤ ((s[k]'hk).toNat : Int) := by omega
  have h2 : ((s[k]'hk).toNat : Int) < 248 := by omega
  by_cases hn : s.size < k + 4
  · have hd : dec (tl s k) = (65533, 1) := by rw [dec_tl, dN_four_bad _ _ _ _ _ hb hb' (.inl (by omega)) (gb_lt s _) (gb_lt s _) (gb_lt s _)]
    have HD := Lib.hid hd
    have hn' : (s.size : Int) - k < 4 := by omega
    clear hg hd
    go_enter Try.func58, Try.ntmps58
    go_wp2
    go_ret3
    exact ⟨trip_bad HD.out, rfl⟩
  · have hn' : ¬ ((s.size : Int) - k < 4) := by omega
    have HG := Lib.hid hg
    clear hg
    go_enter Try.func58, Try.ntmps58
    go_wp2_with fail
    go_loopg [9, 11] 4 (fun kx x i wr => ∃ (j : Nat) (v : Int), x = .int .i64 v ∧ i = .int .i64 j ∧ 1 ≤ j ∧ j ≤ 4 ∧ 4 - j ≤ kx ∧ 0 ≤ v ∧ v < 8388608 ∧ Hid (St s k ((gb s k : Int) - 240) j v) ∧ Hid (w = wr))
    case atStart => exact ⟨1, _, rfl, rfl, by omega, by omega, by omega, by omega, by omega, by rw [HG.out]; exact St.first _ _ _, rfl⟩
    case round =>
      obtain ⟨j, v, rfl, rfl, hj1, hj2, hkx, hv0, hv1, HS, HW⟩ := hrel
      obtain rfl := HW.out
      by_cases hlt : j < 4
      · have hkj : k + j < s.size := by omega
        have hgj := gb_of s (k + j) hkj
        have hlj := gb_lt s (k + j)
        have h4 : ((s[k + j]'hkj).toNat : Int) < 256 := by omega
        by_cases hc : 128 ≤ gb s (k + j) ∧ gb s (k + j) < 192
        · have c1 : 128 ≤ ((s[k + j]'hkj).toNat : Int) := by omega
          have c2 : ((s[k + j]'hkj).toNat : Int) < 192 := by omega
          have HGJ := Lib.hid hgj
          clear hgj hlj
          go_wp2_with (go_at_call 85; refine (more_yes _ _ (by omega) (by omega)).mono ?_; rintro e w' ⟨rfl, rfl⟩)
          have hst : St s k ((gb s k : Int) - 240) (j + 1) (v * 64 + (s[k + j]'hkj).toNat - 128) := HS.out.next hj1 hc.1 hc.2 (by rw [HGJ.out])
          have hbd := hst.bound (by omega) (by omega) (by omega) (by omega)
          go_roundg (4 - (j + 1))
          case measure => omega
          case rel => exact ⟨j + 1, _, rfl, by go_num, by omega, by omega, by omega, hbd.1, hbd.2, hst, rfl⟩
        · have hd := four_bad hb hb' hj1 hlt (by omega)
          have HD := Lib.hid hd
          clear hd
          by_cases c1 : 128 ≤ gb s (k + j)
          · have c2 : 192 ≤ ((s[k + j]'hkj).toNat : Int) := by omega
            clear hgj hlj
            go_wp2_with (go_at_call 85; refine (more_no _ _ (by omega)).mono ?_; rintro e w' ⟨rfl, rfl⟩)
            go_ret3
            exact ⟨trip_bad HD.out, rfl⟩
          · have c2 : ((s[k + j]'hkj).toNat : Int) < 128 := by omega
            clear hgj hlj
            go_wp2_with (go_at_call 85; refine (more_no _ _ (by omega)).mono ?_; rintro e w' ⟨rfl, rfl⟩)
            go_ret3
            exact ⟨trip_bad HD.out, rfl⟩
      · obtain rfl : j = 4 := by omega
        have hd := four_end hb hb' (by omega) HS.out
        by_cases f1 : v < 65536
        · have f : fits 4 v = false := by simp [fits]; omega
          rw [f] at hd
          have HD := Lib.hid hd
          clear hd f
          go_wp2
          go_ret3
          exact ⟨trip_bad HD.out, rfl⟩
        by_cases f2 : v > 1114111
        · have f : fits 4 v = false := by simp [fits]; omega
          rw [f] at hd
          have HD := Lib.hid hd
          clear hd f
          go_wp2
          go_ret3
          exact ⟨trip_bad HD.out, rfl⟩
        by_cases f3 : 55296 ≤ v ∧ v < 57344
        · have f : fits 4 v = false := by simp [fits]; omega
          obtain ⟨f3, f4⟩ := f3
          rw [f] at hd
          have HD := Lib.hid hd
          clear hd f
          go_wp2
          go_ret3
          exact ⟨trip_bad HD.out, rfl⟩
        · have f : fits 4 v = true := by simp [fits]; omega
          rw [f] at hd
          have HD := Lib.hid hd
          clear hd f
          by_cases f4 : 55296 ≤ v
          · have f5 : ¬ v < 57344 := by omega
            clear f3
            go_wp2
            go_ret3
            exact ⟨trip_good (x := v.toNat) (n := 4) HD.out (.inl (by omega)) (by omega) rfl, rfl⟩
          · clear f3
            go_wp2
            go_ret3
            exact ⟨trip_good (x := v.toNat) (n := 4) HD.out (.inl (by omega)) (by omega) rfl, rfl⟩
theorem rnext_any (s : ByteArray) (k : Nat) (w : World) (hs : s.size ≤ 100000) (hk : k < s.size) :
    Calls Try.prog 58 #[.string s, .int .i64 k] w fun e w' => e = trip (tl s k) ∧ w = w' := by
  by_cases h1 : gb s k < 128
  · exact rnext_ascii s k w hs hk h1
  by_cases h2 : gb s k < 192
  · exact rnext_none s k w hs hk (by omega) (.inl h2)
  by_cases h3 : gb s k < 224
  · exact rnext_two s k w hs hk (by omega) h3
  by_cases h4 : gb s k < 240
  · exact rnext_three s k w hs hk (by omega) h4
  by_cases h5 : gb s k < 248
  · exact rnext_four s k w hs hk (by omega) h5
  · exact rnext_none s k w hs hk (by omega) (.inr (by omega))
end Go.Proofs.Ytnefnnoleeeedaa
namespace Go.Proofs.Ytnefnnoleeeedaa
open Go.RowKit
abbrev Tabs (w : World) : Prop := Lib.Utf8Tabs 1 2 w
end Go.Proofs.Ytnefnnoleeeedaa
namespace Go.Proofs.Ytnefnnoleeeedaa
open Go.RowKit
def Upto (s : ByteArray) (k : Nat) : Prop := badAt s.data.toList = (badAt (tl s k)).map (· + k)
theorem tl_zero (s : ByteArray) : tl s 0 = s.data.toList := rfl
theorem Upto.first (s : ByteArray) : Upto s 0 := by
  unfold Upto
  rw [tl_zero]
  cases badAt s.data.toList <;> simp
theorem Upto.next {s : ByteArray} {k : Nat} (h : Upto s k) (hk : k < s.size) (hok : okc (tl s k) = true) : Upto s (k + (dec (tl s k)).2) := by
  unfold Upto at h ⊢
  rw [h, bad_step (tl_ne s k hk) hok, tl_drop, Option.map_map]
  congr 1
  funext x
  simp only [Function.comp_apply]
  omega
theorem Upto.here {s : ByteArray} {k : Nat} (h : Upto s k) (hk : k < s.size) (hok : okc (tl s k) = false) : badI s.data.toList = k := by
  unfold Upto at h
  rw [bad_here (tl_ne s k hk) hok] at h
  unfold badI
  rw [h]
  simp
theorem Upto.done {s : ByteArray} {k : Nat} (h : Upto s k) (hk : s.size ≤ k) : badI s.data.toList = -1 := by
  unfold Upto at h
  rw [tl_end s k hk, bad_nil] at h
  exact badI_none h
set_option maxHeartbeats 2000000 in
theorem rbad_any (s : ByteArray) (w : World) (hs : s.size ≤ 100000) :
    Calls Try.prog 38 #[.string s] w fun e w' => e = .returned (.int .i64 (badI s.data.toList)) ∧ w = w' := by
  go_enter Try.func38, Try.ntmps38
  go_wp2_with fail
  go_loopg [3] s.size (fun kx a wr => ∃ k : Nat, a = .int .i64 k ∧ k ≤ s.size ∧ s.size - k ≤ kx ∧ Hid (Upto s k) ∧ Hid (w = wr))
  case atStart => exact ⟨0, rfl, by omega, by omega, Upto.first s, rfl⟩
  case round =>
    obtain ⟨k, rfl, hk, hkx, HU, HW⟩ := hrel
    obtain rfl := HW.out
    by_cases hlt : k < s.size
    · have hlz : (k : Int) < (s.size : Int) := by omega
      have hd := dec_w s k hlt
      obtain ⟨n, hn⟩ : ∃ n, n = (dec (tl s k)).2 := ⟨_, rfl⟩
      have c := rnext_any s k w hs hlt
      unfold trip at c
      rw [← hn] at c hd
      cases hok : okc (tl s k)
      · rw [hok] at c
        have C := Lib.hid c
        have HF := Lib.hid (HU.out.here hlt hok)
        clear c hn hok
        go_wp2_with fail
        refine C.out.mono ?_
        rintro e w1 ⟨rfl, rfl⟩
        go_wp2_with fail
        go_ret
        exact ⟨ri HF.out.symm, rfl⟩
      · rw [hok] at c
        have C := Lib.hid c
        have HF := Lib.hid (HU.out.next hlt hok)
        rw [← hn] at HF
        clear c hn hok
        go_wp2_with fail
        refine C.out.mono ?_
        rintro e w1 ⟨rfl, rfl⟩
        go_wp2_with fail
        go_roundg (s.size - (k + n))
        case measure => omega
        case rel => exact ⟨k + n, by go_num, by omega, by omega, HF.out, rfl⟩
    · have hlz : ¬ (k : Int) < (s.size : Int) := by omega
      have HF := Lib.hid (HU.out.done (by omega))
      go_wp2_with fail
      go_ret
      exact ⟨ri HF.out.symm, rfl⟩
end Go.Proofs.Ytnefnnoleeeedaa
namespace Go.Proofs.Ytnefnnoleeeedaa
open Go.RowKit
def firstL (l : List UInt8) : Nat × Nat × Nat :=
  if l = [] then (0, 0, 0) else if letN (l.getD 0 0).toNat = true then wordL l else if digN (l.getD 0 0).toNat = true then numL l else if (l.getD 0 0).toNat = 34 then quotL l else signL l
end Go.Proofs.Ytnefnnoleeeedaa
namespace Go.Proofs.Ytnefnnoleeeedaa
open Go.RowKit
theorem step_below {w w1 w2 : World} (h : Below w.heap.size w w1) (h' : Below w1.heap.size w1 w2) : Below w.heap.size w w2 := h.trans (h'.mono h.size)
end Go.Proofs.Ytnefnnoleeeedaa
namespace Go.Proofs.Ytnefnnoleeeedaa
open Go.RowKit
def atK (s : ByteArray) (k : Nat) : Nat := k + lLen (tl s k)
theorem lLen_le (l : List UInt8) : lLen l ≤ l.length := runM_le _ _ _ _
theorem atK_le (s : ByteArray) (k : Nat) (h : k ≤ s.size) : k ≤ atK s k ∧ atK s k ≤ s.size := by
  have := lLen_le (tl s k)
  rw [tl_len] at this
  unfold atK
  omega
theorem first_le (l : List UInt8) : (firstL l).2.1 ≤ l.length := by
  unfold firstL
  by_cases h : l = []
  · rw [if_pos h]; simp
  have h0 := len_pos h
  rw [if_neg h]
  have hw := wLen_le l
  split
  · unfold wordL
    split
    · exact hw
    · split
      · simp
      · exact hw
  · split
    · unfold numL
      split
      · exact hw
      · simp
    · split
      · unfold quotL
        split
        · show qLong l ≤ _
          unfold qLong
          omega
        · simp
      · unfold signL
        split
        · rename_i hp
          have : [61, 61].length ≤ l.length := (List.isPrefixOf_iff_prefix.1 hp).length_le
          exact this
        · split
          · exact h0
          · simp
end Go.Proofs.Ytnefnnoleeeedaa
namespace Go.Proofs.Ytnefnnoleeeedaa
open Go.RowKit
structure Tok where
  kind : Nat
  at_ : Nat
  lead : ByteArray
  text : ByteArray
def cellsT (t : Tok) : List Value := [.int .i64 t.kind, .int .i64 t.at_, .string t.lead, .string t.text]
def cellsL (l : List Tok) : List Value := l.flatMap cellsT
inductive LexR where
  | good (l : List Tok)
  | bad (e a : Int)
def LexR.pre (D : List Tok) : LexR → LexR
  | .good l => .good (D ++ l)
  | .bad e a => .bad e a
def tokK (s : ByteArray) (k : Nat) : Tok := ⟨(firstL (tl s (atK s k))).1, atK s k, s.extract k (atK s k), s.extract (atK s k) (atK s k + (firstL (tl s (atK s k))).2.1)⟩
def endK (s : ByteArray) (k : Nat) : Nat := atK s k + (firstL (tl s (atK s k))).2.1
def errK (s : ByteArray) (k : Nat) : Nat := (firstL (tl s (atK s k))).2.2
def lexF (s : ByteArray) : Nat → Nat → Nat → LexR
  | 0, _, _ => .bad 99 0
  | f + 1, k, n => if errK s k ≠ 0 then .bad (errK s k) (atK s k) else if n = 4000 then .bad 5 (atK s k) else if (tokK s k).kind = 0 then .good [tokK s k] else (lexF s f (endK s k) (n + 1)).pre [tokK s k]
def lexR (s : ByteArray) : LexR := if s.size > 16384 then .bad 5 16384 else if badAt s.data.toList ≠ none then .bad 20 (badI s.data.toList) else lexF s (s.size + 1) 0 0
theorem pre_pre (D E : List Tok) (r : LexR) : (r.pre E).pre D = r.pre (D ++ E) := by cases r <;> simp [LexR.pre]
theorem info47 : (Try.prog.info? 53).map (fun i => (i.zero, i.size, i.bytes)) = some (some (.agg #[.int .i64 0, .int .i64 0, .string ⟨#[]⟩, .string ⟨#[]⟩]), 4, 48) := by kernel_rfl
def Lexed (s : ByteArray) (w : World) (e : Ending) (w' : World) : Prop :=
  Below w.heap.size w w' ∧ match lexR s with
    | .good l => ∃ v, e = .returned (.tuple #[v, .int .i64 0, .int .i64 0]) ∧ w'.ownsRow w.heap.size 53 4 v l.length (cellsL l) ∧ l.length ≤ 4000
    | .bad er a => e = .returned (.tuple #[.slice none 0 0, .int .i64 er, .int .i64 a])
theorem own_below {w w' : World} {base e size n : Nat} {v : Value} {xs : List Value} (h : w.ownsRow base e size v n xs) (hb : Below w.heap.size w w') : w'.ownsRow base e size v n xs := by
  have hlt := h.lt
  refine ⟨h.1, ?_⟩
  rcases h.2 with ⟨hv, hn⟩ | ⟨g, cap, cur, rfl, h1, h2, h3⟩
  · exact .inl ⟨hv, hn⟩
  · exact .inr ⟨g, cap, cur, rfl, h1, (hb.block g (hlt g rfl).2).trans h2, h3⟩
theorem own_slice {w : World} {base e size n : Nat} {v : Value} {xs : List Value} (h : w.ownsRow base e size v n xs) : ∃ A cap, v = .slice A n cap := by
  rcases h.2 with ⟨hv, hx⟩ | ⟨g, cap, cur, hv, _⟩
  · subst hx; exact ⟨none, 0, hv⟩
  · exact ⟨_, cap, hv⟩
theorem cells_tok (w : World) (a b c d : Value) (j : Nat) (u : Value) (hj : [a, b, c, d][j]? = some u) : (w.alloc (.cells #[a, b, c, d] 53)).cell? ((⟨w.heap.size, 0, none⟩ : Addr).add j) = some u := by
  match j, hj with
  | 0, hj => simp at hj; subst hj; simp [Addr.add]
  | 1, hj => simp at hj; subst hj; simp [Addr.add]
  | 2, hj => simp at hj; subst hj; simp [Addr.add]
  | 3, hj => simp at hj; subst hj; simp [Addr.add]
  | (j + 4), hj => simp at hj
theorem one_tok (a b : Int) (c d : ByteArray) : ∀ u ∈ [Value.int .i64 a, .int .i64 b, .string c, .string d], u.oneCell' = true := by
  intro u hu
  simp at hu
  rcases hu with rfl | rfl | rfl | rfl <;> rfl
theorem cellsL_snoc (D : List Tok) (t : Tok) : cellsL (D ++ [t]) = cellsL D ++ cellsT t := by simp [cellsL]
theorem lexF_err {s : ByteArray} {f k n : Nat} (h : errK s k ≠ 0) : lexF s (f + 1) k n = .bad (errK s k) (atK s k) := by rw [lexF, if_pos h]
theorem lexF_many {s : ByteArray} {f k : Nat} (h : errK s k = 0) : lexF s (f + 1) k 4000 = .bad 5 (atK s k) := by rw [lexF, if_neg (by simp [h]), if_pos rfl]
theorem lexF_end {s : ByteArray} {f k n : Nat} (h : errK s k = 0) (hn : n ≠ 4000) (hk : (tokK s k).kind = 0) : lexF s (f + 1) k n = .good [tokK s k] := by rw [lexF, if_neg (by simp [h]), if_neg hn, if_pos hk]
theorem lexF_next {s : ByteArray} {f k n : Nat} (h : errK s k = 0) (hn : n ≠ 4000) (hk : (tokK s k).kind ≠ 0) : lexF s (f + 1) k n = (lexF s f (endK s k) (n + 1)).pre [tokK s k] := by rw [lexF, if_neg (by simp [h]), if_neg hn, if_neg hk]
theorem wLen_pos {b : UInt8} {t : List UInt8} (h : wdN b.toNat = true) : 1 ≤ wLen (b :: t) := by
  unfold wLen
  rw [runM_go (go := wGo) (by exact h)]
  omega
theorem first_kind (l : List UInt8) (h : (firstL l).2.2 = 0) : ((firstL l).1 = 0 ↔ l = []) ∧ ((firstL l).2.1 = 0 ↔ l = []) := by
  cases l with
  | nil => simp [firstL]
  | cons b t =>
    unfold firstL at h ⊢
    rw [if_neg (by simp)] at h ⊢
    have e : (b :: t).getD 0 0 = b := rfl
    rw [e] at h ⊢
    have hne : ¬ (b :: t : List UInt8) = [] := by simp
    simp only [hne, iff_false]
    by_cases h1 : letN b.toNat = true
    · rw [if_pos h1] at h ⊢
      have hp : 1 ≤ wLen (b :: t) := wLen_pos (by unfold wdN; rw [h1]; rfl)
      unfold wordL at h ⊢
      split
      · exact ⟨by simp, by simp only; omega⟩
      · rename_i hk
        rw [if_neg hk] at h
        split
        · rename_i h40
          rw [if_pos h40] at h
          cases h
        · exact ⟨by simp, by simp only; omega⟩
    rw [if_neg h1] at h ⊢
    by_cases h2 : digN b.toNat = true
    · rw [if_pos h2] at h ⊢
      have hp : 1 ≤ wLen (b :: t) := wLen_pos (by unfold wdN; rw [h2]; simp)
      unfold numL at h ⊢
      split
      · exact ⟨by simp, by simp only; omega⟩
      · rename_i hk
        rw [if_neg hk] at h
        cases h
    rw [if_neg h2] at h ⊢
    by_cases h3 : b.toNat = 34
    · rw [if_pos h3] at h ⊢
      unfold quotL at h ⊢
      split
      · refine ⟨by simp, ?_⟩
        simp only [qLong, List.length_cons]
        omega
      · rename_i hk
        rw [if_neg hk] at h
        cases h
    rw [if_neg h3] at h ⊢
    unfold signL at h ⊢
    split
    · exact ⟨by simp, by simp⟩
    · rename_i hp
      rw [if_neg hp] at h
      split
      · exact ⟨by simp, by simp⟩
      · rename_i hk
        rw [if_neg hk] at h
        cases h
theorem endK_le (s : ByteArray) (k : Nat) (h : k ≤ s.size) : atK s k ≤ endK s k ∧ endK s k ≤ s.size := by
  have h1 := first_le (tl s (atK s k))
  have h2 := (atK_le s k h).2
  rw [tl_len] at h1
  unfold endK
  omega
theorem tok_size (s : ByteArray) (k : Nat) (h : k ≤ s.size) : (tokK s k).at_ + (tokK s k).text.size = endK s k := by
  have h1 := endK_le s k h
  show atK s k + (s.extract (atK s k) (endK s k)).size = endK s k
  rw [ByteArray.size_extract]
  omega
theorem tok_pos (s : ByteArray) (k : Nat) (he : errK s k = 0) (hk : (tokK s k).kind ≠ 0) : atK s k < endK s k := by
  obtain ⟨h1, h2⟩ := first_kind (tl s (atK s k)) he
  have h3 : ¬ (firstL (tl s (atK s k))).2.1 = 0 := fun h => hk (h1.2 (h2.1 h))
  unfold endK
  omega
end Go.Proofs.Ytnefnnoleeeedaa
namespace Go.Proofs.Ytnefnnoleeeedaa
open Go.RowKit
def TokAt (w : World) (A : Option Addr) (l : List Tok) : Prop := 0 < l.length → ∃ g, A = some ⟨g, 0, none⟩ ∧ g < w.heap.size ∧ ∀ i (h : i < l.length),
  w.cell? ⟨g, i * 4, none⟩ = some (.int .i64 l[i].kind) ∧ w.cell? ⟨g, i * 4 + 1, none⟩ = some (.int .i64 l[i].at_) ∧ w.cell? ⟨g, i * 4 + 2, none⟩ = some (.string l[i].lead) ∧ w.cell? ⟨g, i * 4 + 3, none⟩ = some (.string l[i].text)
theorem TokAt.below {w w' : World} {A : Option Addr} {l : List Tok} (h : TokAt w A l) (hb : Below w.heap.size w w') : TokAt w' A l := fun hn => by
  obtain ⟨g, e, hg, hc⟩ := h hn
  refine ⟨g, e, Nat.lt_of_lt_of_le hg hb.size, fun i hi => ?_⟩
  obtain ⟨c0, c1, c2, c3⟩ := hc i hi
  exact ⟨(hb.cell (p := ⟨g, i * 4, none⟩) hg).trans c0, (hb.cell (p := ⟨g, i * 4 + 1, none⟩) hg).trans c1, (hb.cell (p := ⟨g, i * 4 + 2, none⟩) hg).trans c2, (hb.cell (p := ⟨g, i * 4 + 3, none⟩) hg).trans c3⟩
theorem cellsL_get : ∀ (l : List Tok) (i : Nat) (h : i < l.length) (c : Nat), c < 4 → (cellsL l)[i * 4 + c]? = (cellsT l[i])[c]?
  | t :: l, 0, h, c, hc => by
    have : (cellsT t).length = 4 := rfl
    simp only [cellsL, List.flatMap_cons, Nat.zero_mul, Nat.zero_add, List.getElem_cons_zero]
    rw [List.getElem?_append_left (by omega)]
  | t :: l, i + 1, h, c, hc => by
    have h4 : (cellsT t).length = 4 := rfl
    have ih := cellsL_get l i (by simp at h; omega) c hc
    simp only [cellsL, List.flatMap_cons, List.getElem_cons_succ]
    rw [List.getElem?_append_right (by omega), h4, show (i + 1) * 4 + c - 4 = i * 4 + c by omega]
    exact ih
theorem TokAt.of_own {w : World} {base n cap : Nat} {A : Option Addr} {l : List Tok} (h : w.ownsRow base 53 4 (.slice A n cap) n (cellsL l)) (hn : n = l.length) : TokAt w A l ∧ (0 < l.length → l.length ≤ cap) := by
  subst hn
  constructor
  · intro h0
    have hlt := h.lt
    rcases h.2 with ⟨hv, hx⟩ | ⟨g, cap', cur, hv, h1, h2, h3⟩
    · omega
    · injection hv with e1 _ _
      subst e1
      have key : ∀ j u, (cellsL l)[j]? = some u → w.cell? ⟨g, j, none⟩ = some u := fun j u hu => by
        have := h.cells (g := g) rfl j u hu
        simp only [Addr.add] at this
        by_cases hj : j = 0 <;> simpa [hj] using this
      refine ⟨g, rfl, (hlt g rfl).2, fun i hi => ⟨?_, ?_, ?_, ?_⟩⟩
      · exact key _ _ (by rw [show i * 4 = i * 4 + 0 by omega, cellsL_get l i hi 0 (by omega)]; rfl)
      · exact key _ _ (by rw [cellsL_get l i hi 1 (by omega)]; rfl)
      · exact key _ _ (by rw [cellsL_get l i hi 2 (by omega)]; rfl)
      · exact key _ _ (by rw [cellsL_get l i hi 3 (by omega)]; rfl)
  · intro h0
    rcases h.2 with ⟨hv, hx⟩ | ⟨g, cap', cur, hv, h1, h2, h3, _⟩
    · omega
    · injection hv with _ _ e3
      subst e3
      exact h3
def Lext (s : ByteArray) (w : World) (e : Ending) (w' : World) : Prop :=
  Below w.heap.size w w' ∧ match lexR s with
    | .good l => ∃ A cap, e = .returned (.tuple #[.slice A l.length cap, .int .i64 0, .int .i64 0]) ∧ TokAt w' A l ∧ l.length ≤ 4000 ∧ (0 < l.length → l.length ≤ cap)
    | .bad er a => e = .returned (.tuple #[.slice none 0 0, .int .i64 er, .int .i64 a])
theorem lext_of {s : ByteArray} {w w' : World} {e : Ending} (h : Lexed s w e w') : Lext s w e w' := by
  refine ⟨h.1, ?_⟩
  have h2 := h.2
  cases hr : lexR s with
  | good l =>
    rw [hr] at h2
    obtain ⟨v, he, hown, hl⟩ := h2
    obtain ⟨A, cap, rfl⟩ := own_slice hown
    obtain ⟨g1, g2⟩ := TokAt.of_own hown rfl
    exact ⟨A, cap, he, g1, hl, g2⟩
  | bad er a =>
    rw [hr] at h2
    exact h2
end Go.Proofs.Ytnefnnoleeeedaa
namespace Go.Proofs.Ytnefnnoleeeedaa
namespace Ps
structure Hd where
  kind : Nat
  fro : Nat
  til : Nat
  word : ByteArray
  at_ : Nat
inductive Fo where
  | nil
  | cons (h : Hd) (kids rest : Fo)
def Fo.len : Fo → Nat
  | .nil => 0
  | .cons _ _ r => r.len + 1
def Fo.app : Fo → Fo → Fo
  | .nil, g => g
  | .cons h k r, g => .cons h k (r.app g)
theorem Fo.app_nil : ∀ a : Fo, a.app .nil = a
  | .nil => rfl
  | .cons h k r => by rw [Fo.app, Fo.app_nil r]
theorem Fo.app_assoc : ∀ a b c : Fo, (a.app b).app c = a.app (b.app c)
  | .nil, _, _ => rfl
  | .cons h k r, b, c => by rw [Fo.app, Fo.app, Fo.app, Fo.app_assoc r]
theorem Fo.len_app : ∀ a b : Fo, (a.app b).len = a.len + b.len
  | .nil, b => by simp [Fo.app, Fo.len]
  | .cons h k r, b => by rw [Fo.app, Fo.len, Fo.len, Fo.len_app r]; omega
def Fo.one (h : Hd) (k : Fo) : Fo := .cons h k .nil
def e0 : ByteArray := ⟨#[]⟩
def Fo.zero : Fo := .one ⟨0, 0, 0, e0, 0⟩ .nil
def Fo.from_ : Fo → Nat
  | .nil => 0
  | .cons h _ _ => h.fro
section
variable (l : List Tok)
def isM (at_ : Nat) (x : List UInt8) : Bool :=
  match l[at_]? with
  | none => false
  | some t => (t.kind == 2 || t.kind == 5) && (t.text.data.toList == x)
def kindAt (at_ : Nat) : Nat := ((l[at_]?).map Tok.kind).getD 0
def textAt (at_ : Nat) : ByteArray := ((l[at_]?).map Tok.text).getD e0
def wantM (b : Int) (at_ : Nat) (x : List UInt8) : Nat × Int := if 0 ≤ b then (at_, b) else if isM l at_ x = true then (at_ + 1, b) else (at_, (at_ : Int))
def wordM (b : Int) (h : Hd) (at_ : Nat) : Hd × Nat × Int := if 0 ≤ b then (h, at_, b) else if kindAt l at_ = 1 then ({ h with word := textAt l at_, at_ := at_ }, at_ + 1, b) else (h, at_, (at_ : Int))
abbrev Res := Option (Fo × Nat × Int)
def Res.pre (k : Fo) (r : Res) : Res := r.map fun x => (k.app x.1, x.2)
inductive TT where
  | kind
  | recL (first : Bool)
  | fnL (first : Bool)
def kInt : List UInt8 := [105, 110, 116]
def kStr : List UInt8 := [115, 116, 114]
def kDyn : List UInt8 := [100, 121, 110]
def kFn : List UInt8 := [102, 110]
def kUse : List UInt8 := [117, 115, 101]
def kDef : List UInt8 := [100, 101, 102]
def kIf : List UInt8 := [105, 102]
def kElse : List UInt8 := [101, 108, 115, 101]
def kWhile : List UInt8 := [119, 104, 105, 108, 101]
def kLet : List UInt8 := [108, 101, 116]
def kPrint : List UInt8 := [112, 114, 105, 110, 116]
def kReturn : List UInt8 := [114, 101, 116, 117, 114, 110]
def kInput : List UInt8 := [105, 110, 112, 117, 116]
def sOpen : List UInt8 := [123]
def sShut : List UInt8 := [125]
def sParO : List UInt8 := [40]
def sParS : List UInt8 := [41]
def sCol : List UInt8 := [58]
def sCom : List UInt8 := [44]
def sSem : List UInt8 := [59]
def sDot : List UInt8 := [46]
def sEq : List UInt8 := [61]
def sEqEq : List UInt8 := [61, 61]
def sLess : List UInt8 := [60]
def sPlus : List UInt8 := [43]
def sMinus : List UInt8 := [45]
def sStar : List UInt8 := [42]
def tyM : Nat → TT → Int → Nat → Res
  | 0, _, _, _ => none
  | f + 1, .kind, b, at_ =>
    if 0 ≤ b then some (.zero, at_, b)
    else if isM l at_ kInt = true then some (.one ⟨29, at_, at_ + 1, e0, 0⟩ .nil, at_ + 1, b)
    else if isM l at_ kStr = true then some (.one ⟨30, at_, at_ + 1, e0, 0⟩ .nil, at_ + 1, b)
    else if isM l at_ kDyn = true then some (.one ⟨31, at_, at_ + 1, e0, 0⟩ .nil, at_ + 1, b)
    else if isM l at_ sOpen = true then
      (tyM f (.recL true) b (at_ + 1)).bind fun x =>
        let y := wantM l x.2.2 x.2.1 sShut
        some (.one ⟨32, at_, y.1, e0, 0⟩ x.1, y.1, y.2)
    else
      let y1 := wantM l b at_ kFn
      let y2 := wantM l y1.2 y1.1 sParO
      (tyM f (.fnL true) y2.2 y2.1).bind fun x =>
        let y3 := wantM l x.2.2 x.2.1 sParS
        let y4 := wantM l y3.2 y3.1 sCol
        (tyM f .kind y4.2 y4.1).bind fun t =>
          some (.one ⟨34, at_, t.2.1, e0, 0⟩ (x.1.app t.1), t.2.1, t.2.2)
  | f + 1, .recL first, b, at_ =>
    if b < 0 ∧ ¬ (first = true ∧ isM l at_ sShut = true) then
      let x := wordM l b ⟨33, at_, 0, e0, 0⟩ at_
      let y := wantM l x.2.2 x.2.1 sCol
      (tyM f .kind y.2 y.1).bind fun t =>
        let n : Fo := .one { x.1 with til := t.2.1 } t.1
        if 0 ≤ t.2.2 ∨ isM l t.2.1 sShut = true then some (n, t.2.1, t.2.2)
        else
          let y2 := wantM l t.2.2 t.2.1 sCom
          (tyM f (.recL false) y2.2 y2.1).pre n
    else some (.nil, at_, b)
  | f + 1, .fnL first, b, at_ =>
    if b < 0 ∧ ¬ (first = true ∧ isM l at_ sParS = true) then
      (tyM f .kind b at_).bind fun t =>
        if 0 ≤ t.2.2 ∨ isM l t.2.1 sParS = true then some (t.1, t.2.1, t.2.2)
        else
          let y2 := wantM l t.2.2 t.2.1 sCom
          (tyM f (.fnL false) y2.2 y2.1).pre t.1
    else some (.nil, at_, b)
def typedM (f : Nat) (b : Int) (at_ : Nat) : Res := if 0 ≤ b ∨ ¬ isM l at_ sCol = true then some (.zero, at_, b) else tyM l f .kind b (at_ + 1)
def parL : Nat → Bool → Int → Nat → Res
  | 0, _, _, _ => none
  | f + 1, first, b, at_ =>
    if b < 0 ∧ ¬ (first = true ∧ isM l at_ sParS = true) then
      let x := wordM l b ⟨5, at_, 0, e0, 0⟩ at_
      (typedM l f x.2.2 x.2.1).bind fun t =>
        let n : Fo := .one { x.1 with til := t.2.1 } t.1
        if 0 ≤ t.2.2 ∨ isM l t.2.1 sParS = true then some (n, t.2.1, t.2.2)
        else
          let y2 := wantM l t.2.2 t.2.1 sCom
          (parL f false y2.2 y2.1).pre n
    else some (.nil, at_, b)
def paramsM (f : Nat) (b : Int) (at_ : Nat) : Res :=
  let y := wantM l b at_ sParO
  (parL l f true y.2 y.1).bind fun x =>
    let y2 := wantM l x.2.2 x.2.1 sParS
    some (.one ⟨4, at_, y2.1, e0, 0⟩ x.1, y2.1, y2.2)
inductive XT where
  | lambda
  | block
  | stmts
  | stmt
  | expr
  | sum
  | sumL (a : Fo)
  | term
  | termL (a : Fo)
  | post
  | postL (a : Fo)
  | args (first : Bool)
  | atom
  | entries (first : Bool)
def exM : Nat → XT → Int → Nat → Res
  | 0, _, _, _ => none
  | f + 1, .lambda, b, at_ =>
    (paramsM l f b at_).bind fun p =>
      (typedM l f p.2.2 p.2.1).bind fun t =>
        (exM f .block t.2.2 t.2.1).bind fun k =>
          some (p.1.app (t.1.app k.1), k.2.1, k.2.2)
  | f + 1, .block, b, at_ =>
    let y := wantM l b at_ sOpen
    (exM f .stmts y.2 y.1).bind fun x =>
      let y2 := wantM l x.2.2 x.2.1 sShut
      some (.one ⟨6, at_, y2.1, e0, 0⟩ x.1, y2.1, y2.2)
  | f + 1, .stmts, b, at_ =>
    if b < 0 ∧ ¬ isM l at_ sShut = true then
      (exM f .stmt b at_).bind fun x => (exM f .stmts x.2.2 x.2.1).pre x.1
    else some (.nil, at_, b)
  | f + 1, .stmt, b, at_ =>
    if isM l at_ kIf = true then
      (exM f .expr b (at_ + 1)).bind fun c =>
        (exM f .block c.2.2 c.2.1).bind fun k =>
          if k.2.2 < 0 ∧ isM l k.2.1 kElse = true then
            (exM f .block k.2.2 (k.2.1 + 1)).bind fun o =>
              some (.one ⟨9, at_, o.2.1, e0, 0⟩ (c.1.app (k.1.app o.1)), o.2.1, o.2.2)
          else some (.one ⟨9, at_, k.2.1, e0, 0⟩ (c.1.app (k.1.app .zero)), k.2.1, k.2.2)
    else if isM l at_ kWhile = true then
      (exM f .expr b (at_ + 1)).bind fun c =>
        (exM f .block c.2.2 c.2.1).bind fun k =>
          some (.one ⟨10, at_, k.2.1, e0, 0⟩ (c.1.app k.1), k.2.1, k.2.2)
    else if isM l at_ kLet = true then
      let x := wordM l b ⟨7, at_, 0, e0, 0⟩ (at_ + 1)
      (typedM l f x.2.2 x.2.1).bind fun t =>
        let y := wantM l t.2.2 t.2.1 sEq
        (exM f .expr y.2 y.1).bind fun v =>
          let y2 := wantM l v.2.2 v.2.1 sSem
          some (.one { x.1 with til := y2.1 } (t.1.app v.1), y2.1, y2.2)
    else
      let x : Hd × Nat × Int :=
        if isM l at_ kPrint = true then (⟨11, at_, 0, e0, 0⟩, at_ + 1, b)
        else if isM l at_ kReturn = true then (⟨12, at_, 0, e0, 0⟩, at_ + 1, b)
        else if kindAt l at_ = 1 ∧ isM l (at_ + 1) sEq = true then (let z := wordM l b ⟨8, at_, 0, e0, 0⟩ at_; (z.1, z.2.1 + 1, z.2.2))
        else (⟨13, at_, 0, e0, 0⟩, at_, b)
      (exM f .expr x.2.2 x.2.1).bind fun v =>
        let y2 := wantM l v.2.2 v.2.1 sSem
        some (.one { x.1 with til := y2.1 } v.1, y2.1, y2.2)
  | f + 1, .expr, b, at_ =>
    (exM f .sum b at_).bind fun a =>
      if 0 ≤ a.2.2 ∨ (¬ isM l a.2.1 sLess = true ∧ ¬ isM l a.2.1 sEqEq = true) then some a
      else (exM f .sum a.2.2 (a.2.1 + 1)).bind fun c =>
        some (.one ⟨if isM l a.2.1 sEqEq = true then 15 else 14, a.1.from_, c.2.1, e0, 0⟩ (a.1.app c.1), c.2.1, c.2.2)
  | f + 1, .sum, b, at_ => (exM f .term b at_).bind fun a => exM f (.sumL a.1) a.2.2 a.2.1
  | f + 1, .sumL a, b, at_ =>
    if b < 0 ∧ (isM l at_ sPlus = true ∨ isM l at_ sMinus = true) then
      (exM f .term b (at_ + 1)).bind fun c =>
        exM f (.sumL (.one ⟨if isM l at_ sMinus = true then 17 else 16, a.from_, c.2.1, e0, 0⟩ (a.app c.1))) c.2.2 c.2.1
    else some (a, at_, b)
  | f + 1, .term, b, at_ => (exM f .post b at_).bind fun a => exM f (.termL a.1) a.2.2 a.2.1
  | f + 1, .termL a, b, at_ =>
    if b < 0 ∧ isM l at_ sStar = true then
      (exM f .post b (at_ + 1)).bind fun c =>
        exM f (.termL (.one ⟨18, a.from_, c.2.1, e0, 0⟩ (a.app c.1))) c.2.2 c.2.1
    else some (a, at_, b)
  | f + 1, .post, b, at_ => (exM f .atom b at_).bind fun a => exM f (.postL a.1) a.2.2 a.2.1
  | f + 1, .postL a, b, at_ =>
    if b < 0 ∧ (isM l at_ sDot = true ∨ isM l at_ sParO = true) then
      if isM l at_ sDot = true then
        let x := wordM l b ⟨19, a.from_, 0, e0, 0⟩ (at_ + 1)
        exM f (.postL (.one { x.1 with til := x.2.1 } a)) x.2.2 x.2.1
      else
        (exM f (.args true) b (at_ + 1)).bind fun k =>
          let y := wantM l k.2.2 k.2.1 sParS
          exM f (.postL (.one ⟨20, a.from_, y.1, e0, 0⟩ (a.app k.1))) y.2 y.1
    else some (a, at_, b)
  | f + 1, .args first, b, at_ =>
    if b < 0 ∧ ¬ (first = true ∧ isM l at_ sParS = true) then
      (exM f .expr b at_).bind fun t =>
        if 0 ≤ t.2.2 ∨ isM l t.2.1 sParS = true then some (t.1, t.2.1, t.2.2)
        else
          let y2 := wantM l t.2.2 t.2.1 sCom
          (exM f (.args false) y2.2 y2.1).pre t.1
    else some (.nil, at_, b)
  | f + 1, .atom, b, at_ =>
    if 0 ≤ b then some (.zero, at_, b)
    else if kindAt l at_ = 3 then some (.one ⟨21, at_, at_ + 1, textAt l at_, at_⟩ .nil, at_ + 1, b)
    else if kindAt l at_ = 4 then some (.one ⟨22, at_, at_ + 1, textAt l at_, at_⟩ .nil, at_ + 1, b)
    else if kindAt l at_ = 1 then some (.one ⟨23, at_, at_ + 1, textAt l at_, at_⟩ .nil, at_ + 1, b)
    else if isM l at_ kInput = true then some (.one ⟨24, at_, at_ + 1, e0, 0⟩ .nil, at_ + 1, b)
    else if isM l at_ sParO = true then
      (exM f .expr b (at_ + 1)).bind fun x =>
        let y := wantM l x.2.2 x.2.1 sParS
        some (.one ⟨25, at_, y.1, e0, 0⟩ x.1, y.1, y.2)
    else if isM l at_ sOpen = true then
      (exM f (.entries true) b (at_ + 1)).bind fun x =>
        let y := wantM l x.2.2 x.2.1 sShut
        some (.one ⟨26, at_, y.1, e0, 0⟩ x.1, y.1, y.2)
    else
      let y := wantM l b at_ kFn
      (exM f .lambda y.2 y.1).bind fun k =>
        some (.one ⟨28, at_, k.2.1, e0, 0⟩ k.1, k.2.1, k.2.2)
  | f + 1, .entries first, b, at_ =>
    if b < 0 ∧ ¬ (first = true ∧ isM l at_ sShut = true) then
      let x := wordM l b ⟨27, at_, 0, e0, 0⟩ at_
      let y := wantM l x.2.2 x.2.1 sCol
      (exM f .expr y.2 y.1).bind fun t =>
        let n : Fo := .one { x.1 with til := t.2.1 } t.1
        if 0 ≤ t.2.2 ∨ isM l t.2.1 sShut = true then some (n, t.2.1, t.2.2)
        else
          let y2 := wantM l t.2.2 t.2.1 sCom
          (exM f (.entries false) y2.2 y2.1).pre n
    else some (.nil, at_, b)
def useM (b : Int) (at_ : Nat) : Fo × Nat × Int :=
  let x := wordM l b ⟨23, at_ + 1, 0, e0, 0⟩ (at_ + 1)
  let y := wantM l x.2.2 x.2.1 sDot
  let z := wordM l y.2 ⟨2, at_, 0, e0, 0⟩ y.1
  let y2 := wantM l z.2.2 z.2.1 sSem
  (.one { z.1 with til := y2.1 } (.one { x.1 with til := x.2.1 } .nil), y2.1, y2.2)
def defM (f : Nat) (b : Int) (at_ : Nat) : Res :=
  let y := wantM l b at_ kDef
  let x := wordM l y.2 ⟨3, at_, 0, e0, 0⟩ y.1
  (exM l f .lambda x.2.2 x.2.1).bind fun k =>
    some (.one { x.1 with til := k.2.1 } k.1, k.2.1, k.2.2)
def itemsM : Nat → Int → Nat → Res
  | 0, _, _ => none
  | f + 1, b, at_ =>
    if b < 0 ∧ kindAt l at_ ≠ 0 then
      if isM l at_ kUse = true then (itemsM f (useM l b at_).2.2 (useM l b at_).2.1).pre (useM l b at_).1
      else (defM l f b at_).bind fun x => (itemsM f x.2.2 x.2.1).pre x.1
    else some (.nil, at_, b)
end
end Ps
end Go.Proofs.Ytnefnnoleeeedaa
namespace Go.Proofs.Ytnefnnoleeeedaa
namespace Ps
variable {l : List Tok}
theorem wantM_bad {b : Int} {i : Nat} {x : List UInt8} (h : 0 ≤ b) : wantM l b i x = (i, b) := by unfold wantM; rw [if_pos h]
theorem wordM_bad {b : Int} {i : Nat} {hd : Hd} (h : 0 ≤ b) : wordM l b hd i = (hd, i, b) := by unfold wordM; rw [if_pos h]
theorem tyM_bad {f : Nat} {t : TT} {b : Int} {i : Nat} {r : Fo × Nat × Int} (hb : 0 ≤ b) (h : tyM l f t b i = some r) : r.2.2 = b := by
  have hb' : ¬ b < 0 := by omega
  cases f with
  | zero => rw [tyM] at h; cases h
  | succ f =>
    cases t with
    | kind => rw [tyM, if_pos hb] at h; injection h with h; rw [← h]
    | recL first => rw [tyM, if_neg (fun hh => hb' hh.1)] at h; injection h with h; rw [← h]
    | fnL first => rw [tyM, if_neg (fun hh => hb' hh.1)] at h; injection h with h; rw [← h]
theorem typedM_bad {f : Nat} {b : Int} {i : Nat} {r : Fo × Nat × Int} (hb : 0 ≤ b) (h : typedM l f b i = some r) : r.2.2 = b := by
  unfold typedM at h
  rw [if_pos (.inl hb)] at h
  injection h with h; rw [← h]
theorem parL_bad {f : Nat} {first : Bool} {b : Int} {i : Nat} {r : Fo × Nat × Int} (hb : 0 ≤ b) (h : parL l f first b i = some r) : r.2.2 = b := by
  have hb' : ¬ b < 0 := by omega
  cases f with
  | zero => rw [parL] at h; cases h
  | succ f => rw [parL, if_neg (fun hh => hb' hh.1)] at h; injection h with h; rw [← h]
theorem paramsM_bad {f : Nat} {b : Int} {i : Nat} {r : Fo × Nat × Int} (hb : 0 ≤ b) (h : paramsM l f b i = some r) : r.2.2 = b := by
  unfold paramsM at h
  dsimp only at h
  rw [wantM_bad hb] at h
  obtain ⟨x, h1, h2⟩ := Option.bind_eq_some_iff.1 h
  have h3 := parL_bad hb h1
  rw [wantM_bad (by omega)] at h2
  injection h2 with h2
  rw [← h2]; exact h3
theorem exM_bad : ∀ (f : Nat) (t : XT) (b : Int) (i : Nat) (r : Fo × Nat × Int), 0 ≤ b → exM l f t b i = some r → r.2.2 = b := by
  intro f
  induction f with
  | zero => intro t b i r _ h; rw [exM] at h; cases h
  | succ f ih =>
    intro t b i r hb h
    have hb' : ¬ b < 0 := by omega
    cases t with
    | lambda =>
      rw [exM] at h
      obtain ⟨p, h1, h⟩ := Option.bind_eq_some_iff.1 h
      obtain ⟨t, h2, h⟩ := Option.bind_eq_some_iff.1 h
      obtain ⟨k, h3, h⟩ := Option.bind_eq_some_iff.1 h
      have e1 := paramsM_bad hb h1
      have e2 := typedM_bad (by omega) h2
      have e3 := ih _ _ _ _ (by omega) h3
      injection h with h; rw [← h]; dsimp only; omega
    | block =>
      rw [exM] at h
      dsimp only at h
      rw [wantM_bad hb] at h
      obtain ⟨x, h1, h⟩ := Option.bind_eq_some_iff.1 h
      have e1 := ih _ _ _ _ hb h1
      rw [wantM_bad (by omega)] at h
      injection h with h; rw [← h]; exact e1
    | stmts => rw [exM, if_neg (fun hh => hb' hh.1)] at h; injection h with h; rw [← h]
    | stmt =>
      rw [exM] at h
      split at h
      · obtain ⟨c, h1, h⟩ := Option.bind_eq_some_iff.1 h
        obtain ⟨k, h2, h⟩ := Option.bind_eq_some_iff.1 h
        have e1 := ih _ _ _ _ hb h1
        have e2 := ih _ _ _ _ (by omega) h2
        rw [if_neg (fun hh => by have := hh.1; omega)] at h
        injection h with h; rw [← h]; dsimp only; omega
      · split at h
        · obtain ⟨c, h1, h⟩ := Option.bind_eq_some_iff.1 h
          obtain ⟨k, h2, h⟩ := Option.bind_eq_some_iff.1 h
          have e1 := ih _ _ _ _ hb h1
          have e2 := ih _ _ _ _ (by omega) h2
          injection h with h; rw [← h]; dsimp only; omega
        · split at h
          · dsimp only at h
            rw [wordM_bad hb] at h
            obtain ⟨t, h1, h⟩ := Option.bind_eq_some_iff.1 h
            have e1 := typedM_bad hb h1
            rw [wantM_bad (by omega)] at h
            obtain ⟨v, h2, h⟩ := Option.bind_eq_some_iff.1 h
            have e2 := ih _ _ _ _ (by omega) h2
            rw [wantM_bad (by omega)] at h
            injection h with h; rw [← h]; dsimp only; omega
          · dsimp only at h
            rw [wordM_bad hb] at h
            obtain ⟨v, h2, h⟩ := Option.bind_eq_some_iff.1 h
            have key : ∀ (c1 c2 c3 : Prop) [Decidable c1] [Decidable c2] [Decidable c3] (u1 u2 u3 u4 : Hd × Nat), (if c1 then (u1.1, u1.2, b) else if c2 then (u2.1, u2.2, b) else if c3 then (u3.1, u3.2, b) else (u4.1, u4.2, b)).2.2 = b := by
              intro c1 c2 c3 _ _ _ u1 u2 u3 u4
              split
              · rfl
              · split
                · rfl
                · split <;> rfl
            have k1 := key (isM l i kPrint = true) (isM l i kReturn = true) (kindAt l i = 1 ∧ isM l (i + 1) sEq = true) (⟨11, i, 0, e0, 0⟩, i + 1) (⟨12, i, 0, e0, 0⟩, i + 1) (⟨8, i, 0, e0, 0⟩, i + 1) (⟨13, i, 0, e0, 0⟩, i)
            dsimp only at k1
            have e2 := ih _ _ _ _ (by rw [k1]; exact hb) h2
            rw [k1] at e2
            rw [wantM_bad (by omega)] at h
            injection h with h; rw [← h]; dsimp only; omega
    | expr =>
      rw [exM] at h
      obtain ⟨a, h1, h⟩ := Option.bind_eq_some_iff.1 h
      have e1 := ih _ _ _ _ hb h1
      rw [if_pos (.inl (by omega))] at h
      injection h with h; rw [← h]; exact e1
    | sum =>
      rw [exM] at h
      obtain ⟨a, h1, h⟩ := Option.bind_eq_some_iff.1 h
      have e1 := ih _ _ _ _ hb h1
      have e2 := ih _ _ _ _ (by omega) h
      omega
    | sumL a => rw [exM, if_neg (fun hh => hb' hh.1)] at h; injection h with h; rw [← h]
    | term =>
      rw [exM] at h
      obtain ⟨a, h1, h⟩ := Option.bind_eq_some_iff.1 h
      have e1 := ih _ _ _ _ hb h1
      have e2 := ih _ _ _ _ (by omega) h
      omega
    | termL a => rw [exM, if_neg (fun hh => hb' hh.1)] at h; injection h with h; rw [← h]
    | post =>
      rw [exM] at h
      obtain ⟨a, h1, h⟩ := Option.bind_eq_some_iff.1 h
      have e1 := ih _ _ _ _ hb h1
      have e2 := ih _ _ _ _ (by omega) h
      omega
    | postL a => rw [exM, if_neg (fun hh => hb' hh.1)] at h; injection h with h; rw [← h]
    | args first => rw [exM, if_neg (fun hh => hb' hh.1)] at h; injection h with h; rw [← h]
    | atom => rw [exM, if_pos hb] at h; injection h with h; rw [← h]
    | entries first => rw [exM, if_neg (fun hh => hb' hh.1)] at h; injection h with h; rw [← h]
abbrev RT := Nat → Int → Nat → Res
def listM (l : List Tok) (R : RT) (last : List UInt8) : Nat → Bool → Int → Nat → Res
  | 0, _, _, _ => none
  | f + 1, first, b, at_ =>
    if b < 0 ∧ ¬ (first = true ∧ isM l at_ last = true) then
      (R f b at_).bind fun t =>
        if 0 ≤ t.2.2 ∨ isM l t.2.1 last = true then some (t.1, t.2.1, t.2.2)
        else
          let y2 := wantM l t.2.2 t.2.1 sCom
          (listM l R last f false y2.2 y2.1).pre t.1
    else some (.nil, at_, b)
theorem args_list : ∀ (f : Nat) (first : Bool) (b : Int) (i : Nat), exM l f (.args first) b i = listM l (fun f => exM l f .expr) sParS f first b i
  | 0, _, _, _ => by rw [exM, listM]
  | f + 1, first, b, i => by
    rw [exM, listM]
    simp only [args_list f]
theorem fn_list : ∀ (f : Nat) (first : Bool) (b : Int) (i : Nat), tyM l f (.fnL first) b i = listM l (fun f => tyM l f .kind) sParS f first b i
  | 0, _, _, _ => by rw [tyM, listM]
  | f + 1, first, b, i => by
    rw [tyM, listM]
    simp only [fn_list f]
def restM (l : List Tok) (R : RT) (last : List UInt8) (f : Nat) (b : Int) (i : Nat) : Res :=
  if 0 ≤ b ∨ isM l i last = true then some (.nil, i, b)
  else listM l R last f false (wantM l b i sCom).2 (wantM l b i sCom).1
theorem isM_ne {i : Nat} {x y : List UInt8} (h : isM l i x = true) (hn : x ≠ y) : isM l i y = false := by
  unfold isM at h ⊢
  cases hl : l[i]? with
  | none => rfl
  | some t =>
    rw [hl] at h
    simp only [Bool.and_eq_true, beq_iff_eq] at h
    have : (t.text.data.toList == y) = false := by rw [beq_eq_false_iff_ne, h.2]; exact hn
    simp only [this, Bool.and_false]
end Ps
end Go.Proofs.Ytnefnnoleeeedaa
