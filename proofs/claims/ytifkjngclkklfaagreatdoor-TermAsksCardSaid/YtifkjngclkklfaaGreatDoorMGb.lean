/- Contracts: the document's strings, written and read. -/
import Derived.Test.YtifkjngclkklfaaGreatDoorMGa
import Derived.Deep.LoopGhost
import Derived.Lib.UnsafeStr
import Derived.Laws.IdiomStrings
import Derived.Laws.MakeOwn
import Derived.OwnWalk
import Derived.Shelf.Strings.Builder1
import Derived.Shelf.Small.Strs
import Derived.Shelf.Strings.Prefix
import Derived.Shelf.Strconv.ErrVarParseInt
import Derived.Shelf.LaysC
namespace Go.Proofs.YtifkjngclkklfaaGreatDoor
open Go.RowKit

theorem bytes_ext {a b : ByteArray} (h : a.data.toList = b.data.toList) : a = b := by
  cases a; cases b
  simp only [ByteArray.mk.injEq]
  exact Array.toList_inj.1 h
theorem app_list (a b : ByteArray) : (a ++ b).data.toList = a.data.toList ++ b.data.toList := by rw [ByteArray.data_append, Array.toList_append]
theorem len_list (a : ByteArray) : a.data.toList.length = a.size := by simp
theorem take_next (s : ByteArray) (k : Nat) (h : k < s.size) : s.data.toList.take (k + 1) = s.data.toList.take k ++ [s[k]] := by
  rw [List.take_succ_eq_append_getElem (by simpa using h)]; rfl
theorem ext_one (s : ByteArray) (k : Nat) (h : k < s.size) : (s.extract k (k + 1)).data.toList = [s[k]] := by
  rw [ByteArray.data_extract, Array.toList_extract, List.extract_eq_take_drop, List.drop_eq_getElem_cons (by simpa using h)]
  simp
  rfl
theorem u8_eq {b : UInt8} {n : Nat} (hn : n < 256) (h : b.toNat = n) : b = UInt8.ofNat n := by
  apply UInt8.toNat_inj.1
  rw [h, UInt8.toNat_ofNat']
  omega

/-- How far a text has been written. -/
def Wr (s : ByteArray) (k : Nat) (O : ByteArray) : Prop := O.data.toList = 34 :: (s.data.toList.take k).flatMap esc
theorem Wr.next {s O X : ByteArray} {k : Nat} (h : Wr s k O) (hk : k < s.size) (hx : X.data.toList = esc s[k]) : Wr s (k + 1) (O ++ X) := by
  unfold Wr at h ⊢
  rw [app_list, h, hx, take_next s k hk, flat_snoc]
  rfl
theorem Wr.size {s O : ByteArray} {k : Nat} (h : Wr s k O) (hk : k ≤ s.size) : O.size ≤ 2 * k + 1 := by
  have h1 := congrArg List.length h
  have h2 := flat_len (s.data.toList.take k)
  rw [List.length_take, len_list] at h2
  rw [len_list, List.length_cons] at h1
  omega

end Go.Proofs.YtifkjngclkklfaaGreatDoor
/- Contracts: the document's strings, read. -/
namespace Go.Proofs.YtifkjngclkklfaaGreatDoor
open Go.RowKit

/-- How far a string has been read. -/
def Rd (W : List UInt8) (I O : ByteArray) : Prop := um W false = (um I.data.toList false).map (O.data.toList ++ ·)
theorem cons_one (I : ByteArray) (h : 0 < I.size) : I.data.toList = I[0] :: (I.extract 1 I.size).data.toList := by
  have e : (I.extract 1 I.size).data.toList = I.data.toList.drop 1 := by
    rw [ByteArray.data_extract, Array.toList_extract, List.extract_eq_take_drop]
    exact List.take_of_length_le (by simp)
  rw [e]
  have h' : 0 < I.data.toList.length := by simpa using h
  conv => lhs; rw [← List.drop_zero (l := I.data.toList), List.drop_eq_getElem_cons h']
  rfl
theorem cons_two (I : ByteArray) (h : 1 < I.size) : I.data.toList = I[0] :: I[1] :: (I.extract 2 I.size).data.toList := by
  have e : (I.extract 2 I.size).data.toList = I.data.toList.drop 2 := by
    rw [ByteArray.data_extract, Array.toList_extract, List.extract_eq_take_drop]
    exact List.take_of_length_le (by simp)
  rw [e]
  have h' : 0 < I.data.toList.length := by have : 0 < I.size := by omega
                                           simpa using this
  have h'' : 1 < I.data.toList.length := by simpa using h
  conv => lhs; rw [← List.drop_zero (l := I.data.toList), List.drop_eq_getElem_cons h', Nat.zero_add, List.drop_eq_getElem_cons h'']
  rfl
theorem rest_size (I : ByteArray) (k : Nat) : (I.extract k I.size).size = I.size - k := by rw [ByteArray.size_extract]; omega
theorem Rd.low {W : List UInt8} {I O : ByteArray} (h : Rd W I O) (h0 : 0 < I.size) (hb : I[0].toNat < 32 ∨ I[0].toNat = 34) : um W false = none := by
  unfold Rd at h
  rw [h, cons_one I h0, um_low _ (by rw [ne_eq, ← UInt8.toNat_inj]; intro e; rw [e] at hb; revert hb; decide) (by rw [UInt8.lt_iff_toNat_lt, ← UInt8.toNat_inj]; exact hb)]
  rfl
theorem Rd.byte {W : List UInt8} {I O : ByteArray} (h : Rd W I O) (h0 : 0 < I.size) (hb : I[0].toNat ≠ 92) (hc : ¬ (I[0].toNat < 32 ∨ I[0].toNat = 34)) : Rd W (I.extract 1 I.size) (O ++ I.extract 0 1) := by
  unfold Rd at h ⊢
  have e : (I.extract 0 1).data.toList = [I[0]] := ext_one I 0 h0
  rw [app_list, e]
  refine um_pre (b := I[0]) (sl := false) ?_ (um_byte _ (by rw [ne_eq, ← UInt8.toNat_inj]; exact hb) (by rw [UInt8.lt_iff_toNat_lt, ← UInt8.toNat_inj]; exact hc))
  rw [h, ← cons_one I h0]
theorem Rd.short {W : List UInt8} {I O : ByteArray} (h : Rd W I O) (h0 : I.size = 1) (hb : I[0].toNat = 92) : um W false = none := by
  unfold Rd at h
  have e : (I.extract 1 I.size).data.toList = [] := List.eq_nil_of_length_eq_zero (by rw [len_list, rest_size]; omega)
  rw [h, cons_one I (by omega), e, u8_eq (by decide) hb]
  rfl
theorem Rd.sign {W : List UInt8} {I O : ByteArray} (h : Rd W I O) (h0 : 1 < I.size) (hb : I[0].toNat = 92) (hs : mb I[1] = true) {X : ByteArray} (hx : X.data.toList = [mn I[1]]) : Rd W (I.extract 2 I.size) (O ++ X) := by
  unfold Rd at h ⊢
  rw [app_list, hx]
  refine um_pre (b := I[1]) (sl := true) ?_ (um_sign _ hs)
  have e : um I.data.toList false = um (I[1] :: (I.extract 2 I.size).data.toList) true := by
    rw [cons_two I h0, u8_eq (by decide) hb]
    exact um_slash _
  rw [h, e]
theorem Rd.nosign {W : List UInt8} {I O : ByteArray} (h : Rd W I O) (h0 : 1 < I.size) (hb : I[0].toNat = 92) (hs : mb I[1] = false) : um W false = none := by
  unfold Rd at h
  have e : um I.data.toList false = um (I[1] :: (I.extract 2 I.size).data.toList) true := by
    rw [cons_two I h0, u8_eq (by decide) hb]
    exact um_slash _
  rw [h, e, um_nosign _ hs]
  rfl
theorem Rd.done {W : List UInt8} {I O : ByteArray} (h : Rd W I O) (h0 : I.size = 0) : um W false = some O.data.toList := by
  unfold Rd at h
  have e : I.data.toList = [] := List.eq_nil_of_length_eq_zero (by rw [len_list]; exact h0)
  rw [h, e]
  simp [um_end]

/-- What is read, as values. -/
def uq (l : List UInt8) : Ending := match unq l with
  | some o => .returned (.tuple #[.string ⟨o.toArray⟩, .int .i64 0])
  | none => .returned (.tuple #[.string ⟨#[]⟩, .int .i64 22])
theorem uq_none {l : List UInt8} (h : unq l = none) : Ending.returned (.tuple #[.string ⟨#[]⟩, .int .i64 22]) = uq l := by unfold uq; rw [h]
theorem uq_some {l : List UInt8} {O : ByteArray} (h : unq l = some O.data.toList) : Ending.returned (.tuple #[.string O, .int .i64 0]) = uq l := by
  unfold uq; rw [h]
/-- The text between the quotes. -/
def mid (s : ByteArray) : ByteArray := s.extract 1 (s.size - 1)
theorem mid_size (s : ByteArray) : (mid s).size = s.size - 2 := by unfold mid; rw [ByteArray.size_extract]; omega
theorem unq_mid (s : ByteArray) (h : 2 ≤ s.size) (h0 : s[0].toNat = 34) (h1 : s[s.size - 1].toNat = 34) : unq s.data.toList = um (mid s).data.toList false := by
  unfold unq
  have e : (mid s).data.toList = (s.data.toList.drop 1).take (s.data.toList.length - 2) := by
    unfold mid
    rw [ByteArray.data_extract, Array.toList_extract, List.extract_eq_take_drop, len_list]
    rfl
  have g0 : s.data.toList.getD 0 0 = 34 := by
    have := gb_of s 0 (by omega)
    unfold gb at this
    rw [← UInt8.toNat_inj, ← this, h0]; rfl
  have g1 : s.data.toList.getD (s.data.toList.length - 1) 0 = 34 := by
    rw [len_list]
    have := gb_of s (s.size - 1) (by omega)
    unfold gb at this
    rw [← UInt8.toNat_inj, ← this, h1]; rfl
  rw [if_neg (by rw [g0, g1, len_list]; simp; omega), e]
theorem unq_bad (s : ByteArray) (h : s.size < 2 ∨ gb s 0 ≠ 34 ∨ gb s (s.size - 1) ≠ 34) : unq s.data.toList = none := by
  unfold unq
  rw [if_pos]
  rw [len_list]
  unfold gb at h
  rcases h with h | h | h
  · exact .inl h
  · exact .inr (.inl fun e => h (by rw [e]; rfl))
  · exact .inr (.inr fun e => h (by rw [e]; rfl))

end Go.Proofs.YtifkjngclkklfaaGreatDoor
/- Contracts: strings written by package runes. -/
namespace Go.Proofs.YtifkjngclkklfaaGreatDoor
open Go.RowKit

theorem info5 : (Tryz.prog.info? 5).map (fun i => (i.zero, i.size, i.bytes)) = some (some (.int .u8 0), 1, 1) := by kernel_rfl

/-- The text of a row of bytes that a call owns. -/
theorem conv_own {w : World} {base n : Nat} {v : Value} {l : List UInt8} (h : w.ownsRow base 5 1 v n (Lib.byteCells l)) :
    (convert 58 9 v).run Tryz.prog w = .ok (.string ⟨l.toArray⟩) w := by
  have hl : l.length = n := by have := h.1; simpa [Lib.byteCells] using this
  rcases h.2 with ⟨rfl, rfl⟩ | ⟨g, cap, cur, rfl, hb, hh, hnc, hcm, hsz, htk⟩
  · obtain rfl : l = [] := List.eq_nil_of_length_eq_zero hl
    rw [run_convert_bytes_string w 58 9 5 none 0 0 Tryz.underlying58 Tryz.underlying5 Tryz.underlying9]
    rfl
  · subst hl
    exact run_convert_bytes_back w 58 9 5 ⟨g, 0, none⟩ cap l Tryz.underlying58 Tryz.underlying5 Tryz.underlying9 fun j hj => h.cells (g := g) rfl j _ (by simp [Lib.byteCells, hj])
/-- A row that was written out. -/
theorem own_built (w : World) (base : Nat) (l : List UInt8) (hb : base ≤ w.heap.size) (hm : l.length ≤ 1000) (cs : Array Value) (hcs : cs.toList = Lib.byteCells l) :
    (w.alloc (.cells cs 5)).ownsRow base 5 1 (.slice (some ⟨w.heap.size, 0, none⟩) l.length l.length) l.length (Lib.byteCells l) := by
  have hsz : cs.size = l.length := by rw [← Array.length_toList, hcs, Lib.byteCells_length]
  refine ⟨by rw [Lib.byteCells_length]; omega, .inr ⟨w.heap.size, l.length, cs, rfl, hb, heap_alloc_new w _, Nat.le_refl _, by unfold maxLen; omega, by omega, ?_⟩⟩
  rw [hcs]
  exact List.take_of_length_le (by rw [Lib.byteCells_length]; omega)
theorem cells_two (w : World) (a b : Value) (j : Nat) (u : Value) (hj : [a, b][j]? = some u) : (w.alloc (.cells #[a, b] 5)).cell? ((⟨w.heap.size, 0, none⟩ : Addr).add j) = some u := by
  match j, hj with
  | 0, hj => simp at hj; subst hj; simp [Addr.add]
  | 1, hj => simp at hj; subst hj; simp [Addr.add]
  | (j + 2), hj => simp at hj
theorem cells_one (w : World) (a : Value) (j : Nat) (u : Value) (hj : [a][j]? = some u) : (w.alloc (.cells #[a] 5)).cell? ((⟨w.heap.size, 0, none⟩ : Addr).add j) = some u := by
  match j, hj with
  | 0, hj => simp at hj; subst hj; simp [Addr.add]
  | (j + 1), hj => simp at hj
theorem one2 (a b : Int) : ∀ u ∈ [Value.int .u8 a, Value.int .u8 b], u.oneCell' = true := by intro u hu; simp at hu; rcases hu with rfl | rfl <;> rfl
theorem one1 (a : Int) : ∀ u ∈ [Value.int .u8 a], u.oneCell' = true := by intro u hu; simp at hu; subst hu; rfl

set_option maxHeartbeats 400000 in
theorem mean_yes (b : UInt8) (w : World) (h : mb b = true) : Calls Tryz.prog 149 #[.int .u8 b.toNat] w fun e w' => e = .returned (.tuple #[.int .u8 (mn b).toNat, .bool true]) ∧ w = w' := by
  simp only [mb, Bool.or_eq_true, beq_iff_eq] at h
  rcases h with ((rfl | rfl) | rfl) | rfl
  all_goals
    go_enter Tryz.func149, Tryz.ntmps149
    go_wp2
    go_ret2
    exact ⟨rfl, rfl⟩
set_option maxHeartbeats 400000 in
theorem mean_no (b : UInt8) (w : World) (h : mb b = false) : Calls Tryz.prog 149 #[.int .u8 b.toNat] w fun e w' => e = .returned (.tuple #[.int .u8 0, .bool false]) ∧ w = w' := by
  simp only [mb, Bool.or_eq_false_iff, beq_eq_false_iff_ne, ne_eq, ← UInt8.toNat_inj] at h
  obtain ⟨⟨⟨h1, h2⟩, h3⟩, h4⟩ := h
  have q1 : ((b.toNat : Int) == 110) = false := by simp; exact fun e => h1 (by rw [show b.toNat = 110 by omega]; rfl)
  have q2 : ((b.toNat : Int) == 116) = false := by simp; exact fun e => h2 (by rw [show b.toNat = 116 by omega]; rfl)
  have q3 : ((b.toNat : Int) == 34) = false := by simp; exact fun e => h3 (by rw [show b.toNat = 34 by omega]; rfl)
  have q4 : ((b.toNat : Int) == 92) = false := by simp; exact fun e => h4 (by rw [show b.toNat = 92 by omega]; rfl)
  clear h1 h2 h3 h4
  go_enter Tryz.func149, Tryz.ntmps149
  go_wp2
  go_ret2
  exact ⟨rfl, rfl⟩

end Go.Proofs.YtifkjngclkklfaaGreatDoor
/- Contracts: strings read by package runes. -/
namespace Go.Proofs.YtifkjngclkklfaaGreatDoor
open Go.RowKit

/-- How far a string has been read, place by place. -/
def Rp (W : List UInt8) (k : Nat) (sl : Bool) (O : List UInt8) : Prop := um W false = (um (W.drop k) sl).map (O ++ ·)
theorem drop_cons (T : ByteArray) (k : Nat) (h : k < T.size) : T.data.toList.drop k = T[k] :: T.data.toList.drop (k + 1) := by
  rw [List.drop_eq_getElem_cons (by simpa using h)]; rfl
theorem Rp.first (W : List UInt8) : Rp W 0 false [] := by unfold Rp; simp
theorem Rp.mean {T : ByteArray} {k : Nat} {O : List UInt8} (h : Rp T.data.toList k true O) (hk : k < T.size) (hm : mb T[k] = true) : Rp T.data.toList (k + 1) false (O ++ [mn T[k]]) := by
  unfold Rp at h ⊢
  rw [drop_cons T k hk] at h
  exact um_pre h (um_sign _ hm)
theorem Rp.nomean {T : ByteArray} {k : Nat} {O : List UInt8} (h : Rp T.data.toList k true O) (hk : k < T.size) (hm : mb T[k] = false) : um T.data.toList false = none := by
  unfold Rp at h
  rw [h, drop_cons T k hk, um_nosign _ hm]
  rfl
theorem Rp.slash {T : ByteArray} {k : Nat} {O : List UInt8} (h : Rp T.data.toList k false O) (hk : k < T.size) (hb : T[k].toNat = 92) : Rp T.data.toList (k + 1) true O := by
  unfold Rp at h ⊢
  rw [h, drop_cons T k hk, u8_eq (by decide) hb]
  rw [show UInt8.ofNat 92 = 92 from rfl, um_slash]
theorem Rp.low {T : ByteArray} {k : Nat} {O : List UInt8} (h : Rp T.data.toList k false O) (hk : k < T.size) (hb : T[k].toNat < 32 ∨ T[k].toNat = 34) : um T.data.toList false = none := by
  unfold Rp at h
  rw [h, drop_cons T k hk, um_low _ (by rw [ne_eq, ← UInt8.toNat_inj]; intro e; rw [e] at hb; revert hb; decide) (by rw [UInt8.lt_iff_toNat_lt, ← UInt8.toNat_inj]; exact hb)]
  rfl
theorem Rp.byte {T : ByteArray} {k : Nat} {O : List UInt8} (h : Rp T.data.toList k false O) (hk : k < T.size) (hb : T[k].toNat ≠ 92) (hc : ¬ (T[k].toNat < 32 ∨ T[k].toNat = 34)) : Rp T.data.toList (k + 1) false (O ++ [T[k]]) := by
  unfold Rp at h ⊢
  rw [drop_cons T k hk] at h
  exact um_pre h (um_byte _ (by rw [ne_eq, ← UInt8.toNat_inj]; exact hb) (by rw [UInt8.lt_iff_toNat_lt, ← UInt8.toNat_inj]; exact hc))
theorem Rp.done {T : ByteArray} {O : List UInt8} {sl : Bool} (h : Rp T.data.toList T.size sl O) : um T.data.toList false = if sl = true then none else some O := by
  unfold Rp at h
  rw [List.drop_of_length_le (by rw [len_list]; exact Nat.le_refl _), um_end] at h
  rw [h]
  cases sl <;> simp

set_option maxHeartbeats 2000000 in
theorem unquote_bad (s : ByteArray) (w : World) (hs : s.size ≤ 100000) (h : s.size < 2 ∨ gb s 0 ≠ 34 ∨ gb s (s.size - 1) ≠ 34) :
    Calls Tryz.prog 144 #[.string s] w fun e w' => e = uq s.data.toList ∧ Below w.heap.size w w' := by
  have HU := Lib.hid (unq_bad s h)
  by_cases h1 : s.size < 2
  · have h1z : (s.size : Int) - 1 < 1 := by omega
    clear h
    go_enter Tryz.func144, Tryz.ntmps144
    go_wp2_with fail
    go_ret2
    exact ⟨uq_none HU.out, Below.refl _ _⟩
  have h1z : ¬ (s.size : Int) - 1 < 1 := by omega
  have g0 := gb_of s 0 (by omega)
  have g1 := gb_of s (s.size - 1) (by omega)
  by_cases h2 : gb s 0 = 34
  · have q0 : (((s[0]'(by omega)).toNat : Int) != 34) = false := by simp; omega
    have q1 : (((s[s.size - 1]'(by omega)).toNat : Int) != 34) = true := by simp; omega
    have hx : s.size - 1 < s.size := by omega
    clear h g0 g1 h2
    go_enter Tryz.func144, Tryz.ntmps144
    go_wp2_with fail
    go_ret2
    exact ⟨uq_none HU.out, Below.refl _ _⟩
  · have q0 : (((s[0]'(by omega)).toNat : Int) != 34) = true := by simp; omega
    have hx : 0 < s.size := by omega
    clear h g0 g1 h2
    go_enter Tryz.func144, Tryz.ntmps144
    go_wp2_with fail
    go_ret2
    exact ⟨uq_none HU.out, Below.refl _ _⟩

set_option maxHeartbeats 4000000 in
set_option maxRecDepth 100000 in
theorem unquote_good (s : ByteArray) (w : World) (hs : s.size ≤ 100000) (h2 : 2 ≤ s.size) (h0 : gb s 0 = 34) (h1 : gb s (s.size - 1) = 34) :
    Calls Tryz.prog 144 #[.string s] w fun e w' => e = uq s.data.toList ∧ Below w.heap.size w w' := by
  obtain ⟨i0, hi, hz0, hz1, hz2⟩ := info_parts info5
  have g0 := gb_of s 0 (by omega)
  have g1 := gb_of s (s.size - 1) (by omega)
  have q0 : (((s[0]'(by omega)).toNat : Int) != 34) = false := by simp; omega
  have q1 : (((s[s.size - 1]'(by omega)).toNat : Int) != 34) = false := by simp; omega
  have hx : s.size - 1 < s.size := by omega
  have HU := Lib.hid (unq_mid s h2 (by omega) (by omega))
  have h1z : ¬ (s.size : Int) - 1 < 1 := by omega
  clear h0 h1 g0 g1
  have hms := mid_size s
  have HM := Lib.hid hms
  clear hms
  go_enter Tryz.func144, Tryz.ntmps144
  go_wp2_with (at_make; refine wpList_make_own _ rfl _ _ 58 rfl w.heap.size 5 i0 (.int .u8 0) 1 Tryz.underlying58 hi hz0 hz1 .i64 .i64 _ (s.size - 1 - 1) rfl rfl rfl (by rw [hz2]; omega) (by unfold maxLen; omega) (Nat.le_refl _) ?_; intro w0 hown0 hgrow0)
  have hb0 : Below w.heap.size w w0 := (Below.refl _ _).grown hgrow0 (Nat.le_refl _) (fun j hj => by cases hj)
  obtain ⟨T, hT⟩ : ∃ T, s.extract 1 (s.size - 1) = T := ⟨_, rfl⟩
  have hmT : mid s = T := hT
  rw [hmT] at HM HU
  have hTs : T.size ≤ 100000 := by have := HM.out; omega
  have hsz : s.size - 1 - 1 = T.size := by have := HM.out; omega
  rw [hT, hsz]
  rw [hsz] at hown0
  clear q0 q1 hgrow0 hT hmT hsz HM
  go_wp2_with fail
  go_loopg [6, 7, 36] T.size (fun kx v b a wr => ∃ (k n : Nat) (sl : Bool) (O : List UInt8), b = .bool sl ∧ a = .int .i64 k ∧ k ≤ T.size ∧ T.size - k ≤ kx ∧ n ≤ k ∧ Hid (Rp T.data.toList k sl O) ∧ wr.ownsRow w.heap.size 5 1 v n (Lib.byteCells O) ∧ Below w.heap.size w wr)
  case atStart => exact ⟨0, 0, false, [], rfl, rfl, by omega, by omega, by omega, Rp.first _, hown0, hb0⟩
  case round =>
    clear hown0 hb0
    obtain ⟨k, n, sl, O, rfl, rfl, hk, hkx, hn, HR, hown, hnx⟩ := hrel
    have hbsz := hnx.size
    by_cases hlt : k < T.size
    · have hlz : (k : Int) < (T.size : Int) := by omega
      cases sl
      · by_cases h92 : (T[k]'hlt).toNat = 92
        · have c1 : (((T[k]'hlt).toNat : Int) == 92) = true := by simp; omega
          have HN := Lib.hid (HR.out.slash hlt h92)
          clear h92
          go_wp2
          go_roundg (T.size - (k + 1))
          case measure => omega
          case rel => exact ⟨k + 1, n, true, _, rfl, by go_num, by omega, by omega, by omega, HN.out, hown, hnx⟩
        have c1 : (((T[k]'hlt).toNat : Int) == 92) = false := by simp; omega
        by_cases h32 : (T[k]'hlt).toNat < 32
        · have c2 : ((T[k]'hlt).toNat : Int) < 32 := by omega
          have HF := Lib.hid (HR.out.low hlt (.inl h32))
          clear h92 h32
          go_wp2
          go_ret2
          exact ⟨uq_none (HU.out.trans HF.out), hnx⟩
        have c2 : ¬ ((T[k]'hlt).toNat : Int) < 32 := by omega
        by_cases h34 : (T[k]'hlt).toNat = 34
        · have c3 : (((T[k]'hlt).toNat : Int) == 34) = true := by simp; omega
          have HF := Lib.hid (HR.out.low hlt (.inr h34))
          clear h92 h32 h34
          go_wp2
          go_ret2
          exact ⟨uq_none (HU.out.trans HF.out), hnx⟩
        have c3 : (((T[k]'hlt).toNat : Int) == 34) = false := by simp; omega
        have HN := Lib.hid (HR.out.byte hlt h92 (by omega))
        clear h92 h32 h34
        have b3 : n + 1 ≤ maxLen := by unfold maxLen; omega
        have b4 : (n + 1) * 1 ≤ 140737488355328 := by omega
        have b5 : w.heap.size ≤ (wr.alloc (.cells #[.int .u8 (T[k]'hlt).toNat] 5)).heap.size := by simp; omega
        go_wp2_with (at_builtin; refine wpList_append_own _ rfl (.tmp 42) (.tmp 44) 58 rfl w.heap.size 5 i0 (.int .u8 0) 1 1 Tryz.underlying58 hi hz0 hz1 hz2 rfl (by decide) _ _ _ rfl (hown.alloc _) ⟨wr.heap.size, 0, none⟩ 1 1 [.int .u8 (T[k]'hlt).toNat] rfl rfl (cells_one _ _) (one1 _) b3 b4 b5 ?_)
        intro v' w1 hown' hgrow _
        have R2 := (hnx.alloc hbsz (.cells #[.int .u8 (T[k]'hlt).toNat] 5)).grown hgrow (by simp; omega) (fun j hj => (hown.lt j hj).1)
        have R1 : w1.ownsRow w.heap.size 5 1 v' (n + 1) (Lib.byteCells (O ++ [T[k]'hlt])) := by rw [Lib.byteCells_append]; exact hown'
        clear hown' hgrow hown hnx b3 b4 b5
        go_wp2
        go_roundg (T.size - (k + 1))
        case measure => omega
        case rel => exact ⟨k + 1, n + 1, false, _, rfl, by go_num, by omega, by omega, by omega, HN.out, R1, R2⟩
      · cases hm : mb (T[k]'hlt)
        · have HF := Lib.hid (HR.out.nomean hlt hm)
          have C := Lib.hid (mean_no (T[k]'hlt) wr hm)
          clear hm
          go_wp2_with fail
          refine C.out.mono ?_
          rintro e w1 ⟨rfl, rfl⟩
          go_wp2
          go_ret2
          exact ⟨uq_none (HU.out.trans HF.out), hnx⟩
        · have HN := Lib.hid (HR.out.mean hlt hm)
          have C := Lib.hid (mean_yes (T[k]'hlt) wr hm)
          clear hm
          go_wp2_with fail
          refine C.out.mono ?_
          rintro e w1 ⟨rfl, rfl⟩
          have b3 : n + 1 ≤ maxLen := by unfold maxLen; omega
          have b4 : (n + 1) * 1 ≤ 140737488355328 := by omega
          have b5 : w.heap.size ≤ (wr.alloc (.cells #[.int .u8 (mn (T[k]'hlt)).toNat] 5)).heap.size := by simp; omega
          go_wp2_with (at_builtin; refine wpList_append_own _ rfl (.tmp 55) (.tmp 57) 58 rfl w.heap.size 5 i0 (.int .u8 0) 1 1 Tryz.underlying58 hi hz0 hz1 hz2 rfl (by decide) _ _ _ rfl (hown.alloc _) ⟨wr.heap.size, 0, none⟩ 1 1 [.int .u8 (mn (T[k]'hlt)).toNat] rfl rfl (cells_one _ _) (one1 _) b3 b4 b5 ?_)
          intro v' w1 hown' hgrow _
          have R2 := (hnx.alloc hbsz (.cells #[.int .u8 (mn (T[k]'hlt)).toNat] 5)).grown hgrow (by simp; omega) (fun j hj => (hown.lt j hj).1)
          have R1 : w1.ownsRow w.heap.size 5 1 v' (n + 1) (Lib.byteCells (O ++ [mn (T[k]'hlt)])) := by rw [Lib.byteCells_append]; exact hown'
          clear hown' hgrow hown hnx b3 b4 b5
          go_wp2
          go_roundg (T.size - (k + 1))
          case measure => omega
          case rel => exact ⟨k + 1, n + 1, false, _, rfl, by go_num, by omega, by omega, by omega, HN.out, R1, R2⟩
    · obtain rfl : k = T.size := by omega
      have hlz : ¬ (T.size : Int) < (T.size : Int) := by omega
      have HF := Lib.hid HR.out.done
      clear hlt
      cases sl
      · have hcv := conv_own hown
        clear hown
        go_wp2
        go_ret2
        exact ⟨uq_some (O := ⟨O.toArray⟩) (HU.out.trans HF.out), hnx⟩
      · clear hown
        go_wp2
        go_ret2
        exact ⟨uq_none (HU.out.trans HF.out), hnx⟩
theorem unquote_any (s : ByteArray) (w : World) (hs : s.size ≤ 100000) :
    Calls Tryz.prog 144 #[.string s] w fun e w' => e = uq s.data.toList ∧ Below w.heap.size w w' := by
  by_cases h : s.size < 2 ∨ gb s 0 ≠ 34 ∨ gb s (s.size - 1) ≠ 34
  · exact unquote_bad s w hs h
  · exact unquote_good s w hs (by omega) (by omega) (by omega)
end Go.Proofs.YtifkjngclkklfaaGreatDoor
/- The library's contracts of strings and numbers at this program: out of the shelf, in plain words. -/
namespace Go.Proofs.YtifkjngclkklfaaGreatDoor
open Go.Shelf Go.RowKit Go.Proofs
def sh_lays169_ren : Go.Shelf.Ren := ⟨fun | 169 => 47 | n => n, fun | 70 => 57 | 9 => 9 | 0 => 0 | 72 => 60 | 37 => 58 | 127 => 89 | 3 => 3 | 5 => 5 | n => n, fun | n => n⟩
theorem sh_lays169 : Go.Proofs.Lays.n169 Tryz.prog sh_lays169_ren := {
  mixed := by kernel_rfl
  f169 := Tryz.func47.trans (congrArg some (by kernel_rfl))
  t0 := Tryz.underlying0
  a0 := Tryz.isAgg0
  z0 := Tryz.sizeOf0
  v0 := Tryz.zeroValue0
  t3 := Tryz.underlying3
  a3 := Tryz.isAgg3
  z3 := Tryz.sizeOf3
  v3 := Tryz.zeroValue3
  t9 := Tryz.underlying9
  a9 := Tryz.isAgg9
  z9 := Tryz.sizeOf9
  v9 := Tryz.zeroValue9
  t37 := Tryz.underlying58
  a37 := Tryz.isAgg58
  z37 := Tryz.sizeOf58
  v37 := Tryz.zeroValue58
  t70 := Tryz.underlying57
  a70 := Tryz.isAgg57
  z70 := Tryz.sizeOf57
  v70 := Tryz.zeroValue57
  t72 := Tryz.underlying60
  a72 := Tryz.isAgg60
  z72 := Tryz.sizeOf60
  v72 := Tryz.zeroValue60
  t127 := Tryz.underlying89
  a127 := Tryz.isAgg89
  z127 := Tryz.sizeOf89
  v127 := Tryz.zeroValue89 }
theorem sh_Builder_Extra_169 : Builder.Extra Tryz.prog sh_lays169_ren := {
  sizeBuilder := by kernel_rfl
  liesBuilder := by kernel_rfl
  t5 := Tryz.underlying5
  a5 := Tryz.isAgg5
  z5 := Tryz.sizeOf5
  v5 := Tryz.zeroValue5
  infoByte := by kernel_rfl
  cellsByte := by kernel_rfl
  sizeByte := by kernel_rfl
  neB5 := by decide }
theorem sh_Builder_String_any (B b : Nat) (l : List UInt8) (w : World) (h : Lib.IsBuilder 60 5 B b (Lib.byteCells l) w) (hBw : B ≤ w.heap.size) :
    Calls Tryz.prog 47 #[.pointer (some ⟨b, 0, none⟩)] w fun e w' => e = .returned (.string ⟨l.toArray⟩) ∧ Below B w w' := Any.Builder_String_any sh_lays169 sh_Builder_Extra_169 B b l w h hBw
def sh_lays137_ren : Go.Shelf.Ren := ⟨fun | 137 => 146 | 217 => 151 | 266 => 157 | n => n, fun | 9 => 9 | 5 => 5 | 3 => 3 | n => n, fun | n => n⟩
theorem sh_lays137 : Go.Proofs.Lays.n137 Tryz.prog sh_lays137_ren := {
  mixed := by kernel_rfl
  f137 := Tryz.func146.trans (congrArg some (by kernel_rfl))
  f217 := Tryz.func151.trans (congrArg some (by kernel_rfl))
  f266 := Tryz.func157.trans (congrArg some (by kernel_rfl))
  t3 := Tryz.underlying3
  a3 := Tryz.isAgg3
  z3 := Tryz.sizeOf3
  v3 := Tryz.zeroValue3
  t5 := Tryz.underlying5
  a5 := Tryz.isAgg5
  z5 := Tryz.sizeOf5
  v5 := Tryz.zeroValue5
  t9 := Tryz.underlying9
  a9 := Tryz.isAgg9
  z9 := Tryz.sizeOf9
  v9 := Tryz.zeroValue9 }
theorem sh_strings_IndexByte (s : ByteArray) (c : Int) (w : World) :
    Calls Tryz.prog 146 #[.string s, .int .u8 c] w fun e w' => e = .returned (.int .i64 (Lib.indexByte s.data.toList c.toNat.toUInt8)) ∧ w' = w := Any.strings_IndexByte sh_lays137 s c w
def sh_lays99_ren : Go.Shelf.Ren := ⟨fun | 99 => 145 | 206 => 150 | n => n, fun | 9 => 9 | 4 => 4 | 3 => 3 | n => n, fun | n => n⟩
theorem sh_lays99 : Go.Proofs.Lays.n99 Tryz.prog sh_lays99_ren := {
  mixed := by kernel_rfl
  f99 := Tryz.func145.trans (congrArg some (by kernel_rfl))
  f206 := Tryz.func150.trans (congrArg some (by kernel_rfl))
  t3 := Tryz.underlying3
  a3 := Tryz.isAgg3
  z3 := Tryz.sizeOf3
  v3 := Tryz.zeroValue3
  t4 := Tryz.underlying4
  a4 := Tryz.isAgg4
  z4 := Tryz.sizeOf4
  v4 := Tryz.zeroValue4
  t9 := Tryz.underlying9
  a9 := Tryz.isAgg9
  z9 := Tryz.sizeOf9
  v9 := Tryz.zeroValue9 }
theorem sh_strings_HasPrefix (s p : ByteArray) (w : World) :
    Calls Tryz.prog 145 #[.string s, .string p] w fun e w' => e = .returned (.bool (Lib.hasPrefix s.data.toList p.data.toList)) ∧ w' = w := Any.strings_HasPrefix sh_lays99 s p w
def sh_laysC174_ren : Go.Shelf.Ren := ⟨fun | 174 => 142 | 247 => 147 | 245 => 148 | 287 => 152 | 279 => 153 | 280 => 154 | 281 => 155 | 282 => 156 | 321 => 158 | 322 => 159 | 316 => 160 | 171 => 162 | 205 => 161 | 243 => 163 | 246 => 164 | 283 => 165 | 284 => 166 | 285 => 167 | 286 => 168 | 129 => 115 | 317 => 169 | 318 => 170 | 319 => 171 | 320 => 172 | 337 => 173 | 338 => 174 | n => n, fun | 9 => 9 | 3 => 3 | 2 => 2 | 75 => 84 | 85 => 152 | 4 => 4 | 167 => 164 | 5 => 5 | 53 => 133 | 175 => 165 | 46 => 80 | 168 => 167 | 37 => 58 | 0 => 0 | 210 => 173 | 21 => 21 | 127 => 89 | 145 => 178 | 143 => 176 | 171 => 180 | 173 => 182 | 212 => 186 | 51 => 131 | 20 => 20 | 213 => 187 | 232 => 188 | 233 => 189 | 80 => 64 | n => n, fun | 15 => 3 | 16 => 4 | 17 => 5 | 18 => 6 | 19 => 7 | n => n⟩
theorem sh_laysC174 : Go.Proofs.LaysC.n174 Tryz.prog sh_laysC174_ren := {
  mixed := by kernel_rfl
  f129 := Tryz.func115.trans (congrArg some (by kernel_rfl))
  f171 := Tryz.func162.trans (congrArg some (by kernel_rfl))
  f174 := Tryz.func142.trans (congrArg some (by kernel_rfl))
  f205 := Tryz.func161.trans (congrArg some (by kernel_rfl))
  f243 := Tryz.func163.trans (congrArg some (by kernel_rfl))
  f245 := Tryz.func148.trans (congrArg some (by kernel_rfl))
  f246 := Tryz.func164.trans (congrArg some (by kernel_rfl))
  f247 := Tryz.func147.trans (congrArg some (by kernel_rfl))
  f279 := Tryz.func153.trans (congrArg some (by kernel_rfl))
  f280 := Tryz.func154.trans (congrArg some (by kernel_rfl))
  f281 := Tryz.func155.trans (congrArg some (by kernel_rfl))
  f282 := Tryz.func156.trans (congrArg some (by kernel_rfl))
  f283 := Tryz.func165.trans (congrArg some (by kernel_rfl))
  f284 := Tryz.func166.trans (congrArg some (by kernel_rfl))
  f285 := Tryz.func167.trans (congrArg some (by kernel_rfl))
  f286 := Tryz.func168.trans (congrArg some (by kernel_rfl))
  f287 := Tryz.func152.trans (congrArg some (by kernel_rfl))
  f316 := Tryz.func160.trans (congrArg some (by kernel_rfl))
  f317 := Tryz.func169.trans (congrArg some (by kernel_rfl))
  f318 := Tryz.func170.trans (congrArg some (by kernel_rfl))
  f319 := Tryz.func171.trans (congrArg some (by kernel_rfl))
  f320 := Tryz.func172.trans (congrArg some (by kernel_rfl))
  f321 := Tryz.func158.trans (congrArg some (by kernel_rfl))
  f322 := Tryz.func159.trans (congrArg some (by kernel_rfl))
  f337 := Tryz.func173.trans (congrArg some (by kernel_rfl))
  f338 := Tryz.func174.trans (congrArg some (by kernel_rfl))
  t0 := Tryz.underlying0
  a0 := Tryz.isAgg0
  z0 := Tryz.sizeOf0
  v0 := Tryz.zeroValue0
  t2 := Tryz.underlying2
  a2 := Tryz.isAgg2
  z2 := Tryz.sizeOf2
  v2 := Tryz.zeroValue2
  t3 := Tryz.underlying3
  a3 := Tryz.isAgg3
  z3 := Tryz.sizeOf3
  v3 := Tryz.zeroValue3
  t4 := Tryz.underlying4
  a4 := Tryz.isAgg4
  z4 := Tryz.sizeOf4
  v4 := Tryz.zeroValue4
  t5 := Tryz.underlying5
  a5 := Tryz.isAgg5
  z5 := Tryz.sizeOf5
  v5 := Tryz.zeroValue5
  t9 := Tryz.underlying9
  a9 := Tryz.isAgg9
  z9 := Tryz.sizeOf9
  v9 := Tryz.zeroValue9
  t20 := Tryz.underlying20
  a20 := Tryz.isAgg20
  z20 := Tryz.sizeOf20
  v20 := Tryz.zeroValue20
  t21 := Tryz.underlying21
  a21 := Tryz.isAgg21
  z21 := Tryz.sizeOf21
  v21 := Tryz.zeroValue21
  t37 := Tryz.underlying58
  a37 := Tryz.isAgg58
  z37 := Tryz.sizeOf58
  v37 := Tryz.zeroValue58
  t46 := Tryz.underlying80
  a46 := Tryz.isAgg80
  z46 := Tryz.sizeOf80
  v46 := Tryz.zeroValue80
  t51 := Tryz.underlying131
  a51 := Tryz.isAgg131
  z51 := Tryz.sizeOf131
  v51 := Tryz.zeroValue131
  t53 := Tryz.underlying133
  a53 := Tryz.isAgg133
  z53 := Tryz.sizeOf133
  v53 := Tryz.zeroValue133
  t75 := Tryz.underlying84
  a75 := Tryz.isAgg84
  z75 := Tryz.sizeOf84
  v75 := Tryz.zeroValue84
  t85 := Tryz.underlying152
  a85 := Tryz.isAgg152
  z85 := Tryz.sizeOf152
  v85 := Tryz.zeroValue152
  t127 := Tryz.underlying89
  a127 := Tryz.isAgg89
  z127 := Tryz.sizeOf89
  v127 := Tryz.zeroValue89
  t143 := Tryz.underlying176
  a143 := Tryz.isAgg176
  z143 := Tryz.sizeOf176
  v143 := Tryz.zeroValue176
  t145 := Tryz.underlying178
  a145 := Tryz.isAgg178
  z145 := Tryz.sizeOf178
  v145 := Tryz.zeroValue178
  t167 := Tryz.underlying164
  a167 := Tryz.isAgg164
  z167 := Tryz.sizeOf164
  v167 := Tryz.zeroValue164
  t168 := Tryz.underlying167
  a168 := Tryz.isAgg167
  z168 := Tryz.sizeOf167
  v168 := Tryz.zeroValue167
  t171 := Tryz.underlying180
  a171 := Tryz.isAgg180
  z171 := Tryz.sizeOf180
  v171 := Tryz.zeroValue180
  t173 := Tryz.underlying182
  a173 := Tryz.isAgg182
  z173 := Tryz.sizeOf182
  v173 := Tryz.zeroValue182
  t175 := Tryz.underlying165
  a175 := Tryz.isAgg165
  z175 := Tryz.sizeOf165
  v175 := Tryz.zeroValue165
  t210 := Tryz.underlying173
  a210 := Tryz.isAgg173
  z210 := Tryz.sizeOf173
  v210 := Tryz.zeroValue173
  t212 := Tryz.underlying186
  a212 := Tryz.isAgg186
  z212 := Tryz.sizeOf186
  v212 := Tryz.zeroValue186
  t213 := Tryz.underlying187
  a213 := Tryz.isAgg187
  z213 := Tryz.sizeOf187
  t232 := Tryz.underlying188
  a232 := Tryz.isAgg188
  z232 := Tryz.sizeOf188
  v232 := Tryz.zeroValue188
  t233 := Tryz.underlying189
  a233 := Tryz.isAgg189
  z233 := Tryz.sizeOf189
  v233 := Tryz.zeroValue189
  g15 := by kernel_rfl
  g16 := by kernel_rfl
  g17 := by kernel_rfl
  g18 := by kernel_rfl
  g19 := by kernel_rfl
  t80 := Tryz.underlying64
  a80 := Tryz.isAgg64
  z80 := Tryz.sizeOf64
  v80 := Tryz.zeroValue64
  i0 := by kernel_rfl
  i2 := by kernel_rfl
  i3 := by kernel_rfl
  i4 := by kernel_rfl
  i5 := by kernel_rfl
  i9 := by kernel_rfl
  i20 := by kernel_rfl
  i21 := by kernel_rfl
  i37 := by kernel_rfl
  i46 := by kernel_rfl
  i51 := by kernel_rfl
  i53 := by kernel_rfl
  i75 := by kernel_rfl
  i80 := by kernel_rfl
  i85 := by kernel_rfl
  i127 := by kernel_rfl
  i143 := by kernel_rfl
  i145 := by kernel_rfl
  i167 := by kernel_rfl
  i168 := by kernel_rfl
  i171 := by kernel_rfl
  i173 := by kernel_rfl
  i175 := by kernel_rfl
  i210 := by kernel_rfl
  i212 := by kernel_rfl
  i232 := by kernel_rfl
  i233 := by kernel_rfl
  m15 := by kernel_rfl
  m16 := by kernel_rfl
  m17 := by kernel_rfl
  m18 := by kernel_rfl
  m19 := by kernel_rfl
  c0 := by kernel_rfl
  c2 := by kernel_rfl
  c3 := by kernel_rfl
  c4 := by kernel_rfl
  c5 := by kernel_rfl
  c9 := by kernel_rfl
  c20 := by kernel_rfl
  c21 := by kernel_rfl
  c37 := by kernel_rfl
  c46 := by kernel_rfl
  c51 := by kernel_rfl
  c53 := by kernel_rfl
  c75 := by kernel_rfl
  c80 := by kernel_rfl
  c85 := by kernel_rfl
  c127 := by kernel_rfl
  c143 := by kernel_rfl
  c145 := by kernel_rfl
  c167 := by kernel_rfl
  c168 := by kernel_rfl
  c171 := by kernel_rfl
  c173 := by kernel_rfl
  c175 := by kernel_rfl
  c210 := by kernel_rfl
  c212 := by kernel_rfl
  c213 := by kernel_rfl
  c232 := by kernel_rfl
  c233 := by kernel_rfl }
theorem sh_strconv_ParseInt_10_at64_ok (s : ByteArray) (hmax : s.size ≤ 9223372036854775806) (v : Int) (h : Lib.parseIntB 64 s.data.toList = .ok v) (w : World) :
    Calls Tryz.prog 142 #[.string s, .int .i64 10, .int .i64 64] w fun e w' => e = .returned (.tuple #[.int .i64 v, .nilIface]) ∧ (w' = w ∨ ∃ t, w' = Lib.bytesWorld w 5 t) := Any.strconv_ParseInt_10_at64_ok sh_laysC174 s hmax v h w
theorem sh_strconv_ParseInt_10_at64_range (s : ByteArray) (hlim : s.size ≤ 281474976710656) (h : Lib.parseIntB 64 s.data.toList = .range) (ev : Value) (w : World) (hv : w.cell? ⟨4, 0, none⟩ = some ev) (hev : ev = .nilIface ∨ ∃ te pe, ev = .iface te pe) :
    Calls Tryz.prog 142 #[.string s, .int .i64 10, .int .i64 64] w fun e w' => ∃ N, e = .returned (.tuple #[.int .i64 (Lib.intSat 64 s.data.toList), .iface 167 (.pointer (some ⟨N, 0, none⟩))]) ∧ w.heap.size ≤ N ∧ w'.heap[N]? = some (.cells #[.string ⟨#[80, 97, 114, 115, 101, 73, 110, 116]⟩, .string s, ev] 173 (0, 0)) ∧ Below w.heap.size w w' := Any.strconv_ParseInt_10_at64_range sh_laysC174 s hlim h ev w hv hev
end Go.Proofs.YtifkjngclkklfaaGreatDoor
/- Contracts: the document's answer for a character at a place. -/
namespace Go.Proofs.YtifkjngclkklfaaGreatDoor
open Go.RowKit
/-- What a form's bytes come to, place by place. -/
def acc (s : ByteArray) (k : Nat) (f0 : Int) : Nat → Int
  | 0 => f0
  | j + 1 => acc s k f0 j * 64 + gb s (k + (j + 1)) - 128
def St (s : ByteArray) (k : Nat) (f0 : Int) (j : Nat) (v : Int) : Prop := v = acc s k f0 (j - 1) ∧ ∀ t, 1 ≤ t → t < j → 128 ≤ gb s (k + t) ∧ gb s (k + t) < 192
theorem St.first (s : ByteArray) (k : Nat) (f0 : Int) : St s k f0 1 f0 := ⟨rfl, fun t h1 h2 => by omega⟩
theorem St.next {s : ByteArray} {k j : Nat} {f0 v : Int} (h : St s k f0 j v) (hj : 1 ≤ j) (h1 : 128 ≤ gb s (k + j)) (h2 : gb s (k + j) < 192) {x : Int} (hx : x = v * 64 + gb s (k + j) - 128) : St s k f0 (j + 1) x := by
  obtain ⟨j, rfl⟩ : ∃ i, j = i + 1 := ⟨j - 1, by omega⟩
  refine ⟨by rw [hx, h.1]; rfl, fun t a b => ?_⟩
  by_cases e : t = j + 1
  · subst e; exact ⟨h1, h2⟩
  · exact h.2 t a (by omega)
theorem St.bound {s : ByteArray} {k j : Nat} {f0 v : Int} (h : St s k f0 j v) (h0 : 0 ≤ f0) (h1 : f0 < 32) (hj : 1 ≤ j) (hj' : j ≤ 4) : 0 ≤ v ∧ v < 8388608 := by
  obtain ⟨rfl, hc⟩ := h
  rcases (by omega : j = 1 ∨ j = 2 ∨ j = 3 ∨ j = 4) with rfl | rfl | rfl | rfl
  · simp [acc]; omega
  · have c1 := hc 1 (by omega) (by omega)
    simp [acc]; omega
  · have c1 := hc 1 (by omega) (by omega)
    have c2 := hc 2 (by omega) (by omega)
    simp [acc]; omega
  · have c1 := hc 1 (by omega) (by omega)
    have c2 := hc 2 (by omega) (by omega)
    have c3 := hc 3 (by omega) (by omega)
    simp [acc]; omega

theorem two_bad {s : ByteArray} {k j : Nat} (hb : 192 ≤ gb s k) (hb' : gb s k < 224) (h1 : 1 ≤ j) (h2 : j < 2) (h : gb s (k + j) < 128 ∨ 192 ≤ gb s (k + j)) : dec (tl s k) = (65533, 1) := by
  rw [dec_tl]
  have q : gb s (k + 1) < 128 ∨ 192 ≤ gb s (k + 1) := by
    rcases (by omega : j = 1) with rfl <;> omega
  exact dN_two_bad _ _ _ _ _ hb hb' (.inr q) (gb_lt s _)
theorem two_end {s : ByteArray} {k : Nat} {v : Int} (hb : 192 ≤ gb s k) (hb' : gb s k < 224) (hn : k + 2 ≤ s.size) (h : St s k ((gb s k : Int) - 192) 2 v) :
    dec (tl s k) = if fits 2 v = true then (v.toNat, 2) else (65533, 1) := by
  rw [dec_tl]
  obtain ⟨rfl, hc⟩ := h
  have c1 := hc 1 (by omega) (by omega)
  exact dN_two _ _ _ _ _ hb hb' (by omega) c1.1 c1.2

theorem three_bad {s : ByteArray} {k j : Nat} (hb : 224 ≤ gb s k) (hb' : gb s k < 240) (h1 : 1 ≤ j) (h2 : j < 3) (h : gb s (k + j) < 128 ∨ 192 ≤ gb s (k + j)) : dec (tl s k) = (65533, 1) := by
  rw [dec_tl]
  have q : gb s (k + 1) < 128 ∨ 192 ≤ gb s (k + 1) ∨ gb s (k + 2) < 128 ∨ 192 ≤ gb s (k + 2) := by
    rcases (by omega : j = 1 ∨ j = 2) with rfl | rfl <;> omega
  exact dN_three_bad _ _ _ _ _ hb hb' (.inr q) (gb_lt s _) (gb_lt s _)
theorem three_end {s : ByteArray} {k : Nat} {v : Int} (hb : 224 ≤ gb s k) (hb' : gb s k < 240) (hn : k + 3 ≤ s.size) (h : St s k ((gb s k : Int) - 224) 3 v) :
    dec (tl s k) = if fits 3 v = true then (v.toNat, 3) else (65533, 1) := by
  rw [dec_tl]
  obtain ⟨rfl, hc⟩ := h
  have c1 := hc 1 (by omega) (by omega)
  have c2 := hc 2 (by omega) (by omega)
  exact dN_three _ _ _ _ _ hb hb' (by omega) c1.1 c1.2 c2.1 c2.2

theorem four_bad {s : ByteArray} {k j : Nat} (hb : 240 ≤ gb s k) (hb' : gb s k < 248) (h1 : 1 ≤ j) (h2 : j < 4) (h : gb s (k + j) < 128 ∨ 192 ≤ gb s (k + j)) : dec (tl s k) = (65533, 1) := by
  rw [dec_tl]
  have q : gb s (k + 1) < 128 ∨ 192 ≤ gb s (k + 1) ∨ gb s (k + 2) < 128 ∨ 192 ≤ gb s (k + 2) ∨ gb s (k + 3) < 128 ∨ 192 ≤ gb s (k + 3) := by
    rcases (by omega : j = 1 ∨ j = 2 ∨ j = 3) with rfl | rfl | rfl <;> omega
  exact dN_four_bad _ _ _ _ _ hb hb' (.inr q) (gb_lt s _) (gb_lt s _) (gb_lt s _)
theorem four_end {s : ByteArray} {k : Nat} {v : Int} (hb : 240 ≤ gb s k) (hb' : gb s k < 248) (hn : k + 4 ≤ s.size) (h : St s k ((gb s k : Int) - 240) 4 v) :
    dec (tl s k) = if fits 4 v = true then (v.toNat, 4) else (65533, 1) := by
  rw [dec_tl]
  obtain ⟨rfl, hc⟩ := h
  have c1 := hc 1 (by omega) (by omega)
  have c2 := hc 2 (by omega) (by omega)
  have c3 := hc 3 (by omega) (by omega)
  exact dN_four _ _ _ _ _ hb hb' (by omega) c1.1 c1.2 c2.1 c2.2 c3.1 c3.2

end Go.Proofs.YtifkjngclkklfaaGreatDoor
