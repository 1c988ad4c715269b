/- Plain mathematics: how the document's answer decodes a character, form by form. -/
import Derived.Test.YthbmnnnlkgbieaaGreatDoorMU
import Derived.Test.YthbmnnnlkgbieaaGreatDoorBase
namespace Go.Proofs.YthbmnnnlkgbieaaGreatDoor
open Go.Lib (decodeN)

/-- A byte's number. -/
def gb (s : ByteArray) (i : Nat) : Nat := (s.data.toList.getD i 0).toNat
theorem gb_lt (s : ByteArray) (i : Nat) : gb s i < 256 := UInt8.toNat_lt _
theorem gb_of (s : ByteArray) (i : Nat) (h : i < s.size) : (s[i]'h).toNat = gb s i := by
  unfold gb
  rw [List.getD_eq_getElem?_getD, List.getElem?_eq_getElem (by simpa using h)]
  rfl
/-- The bytes from a place on. -/
def tl (s : ByteArray) (i : Nat) : List UInt8 := s.data.toList.drop i
theorem tl_len (s : ByteArray) (i : Nat) : (tl s i).length = s.size - i := by simp [tl]
theorem tl_ne (s : ByteArray) (i : Nat) (h : i < s.size) : tl s i ≠ [] := by
  intro e
  have := tl_len s i
  rw [e] at this
  simp at this
  omega
theorem tl_end (s : ByteArray) (i : Nat) (h : s.size ≤ i) : tl s i = [] := List.eq_nil_of_length_eq_zero (by rw [tl_len]; omega)
theorem tl_get (s : ByteArray) (i j : Nat) : ((tl s i).getD j 0).toNat = gb s (i + j) := by
  unfold tl gb
  simp [List.getD_eq_getElem?_getD, List.getElem?_drop]
theorem tl_drop (s : ByteArray) (i j : Nat) : (tl s i).drop j = tl s (i + j) := by simp [tl, List.drop_drop]
theorem dec_tl (s : ByteArray) (i : Nat) : dec (tl s i) = decodeN (s.size - i) (gb s i) (gb s (i + 1)) (gb s (i + 2)) (gb s (i + 3)) := by
  unfold dec
  rw [tl_len, tl_get, tl_get, tl_get, tl_get, Nat.add_zero]
theorem dec_w (s : ByteArray) (i : Nat) (h : i < s.size) : 1 ≤ (dec (tl s i)).2 ∧ (dec (tl s i)).2 ≤ 4 ∧ i + (dec (tl s i)).2 ≤ s.size := by
  have h1 := dec_le _ (tl_ne s i h)
  rw [tl_len] at h1
  exact ⟨dec_pos _, dec_le4 _, by omega⟩

theorem dN_ascii (n b0 b1 b2 b3 : Nat) (h : b0 < 128) : decodeN n b0 b1 b2 b3 = (b0, 1) := by unfold decodeN; rw [if_pos h]
theorem dN_none (n b0 b1 b2 b3 : Nat) (h : 128 ≤ b0) (h' : b0 < 192 ∨ 248 ≤ b0) (h2 : b0 < 256) : decodeN n b0 b1 b2 b3 = (65533, 1) := by
  rcases decN_ways n b0 b1 b2 b3 with ⟨h, _⟩ | ⟨_, h⟩ | ⟨_, _, _, _, h⟩ | ⟨_, _, _, _, _, _, h⟩ | ⟨_, _, _, _, _, _, _, h⟩ <;> first | exact h | omega
theorem dN_two_bad (n b0 b1 b2 b3 : Nat) (h : 192 ≤ b0) (h' : b0 < 224) (hb : n < 2 ∨ b1 < 128 ∨ 192 ≤ b1) (hb1 : b1 < 256) : decodeN n b0 b1 b2 b3 = (65533, 1) := by
  rcases decN_ways n b0 b1 b2 b3 with ⟨h, _⟩ | ⟨_, h⟩ | ⟨_, _, _, _, h⟩ | ⟨_, _, _, _, _, _, h⟩ | ⟨_, _, _, _, _, _, _, h⟩ <;> first | exact h | omega
theorem dN_three_bad (n b0 b1 b2 b3 : Nat) (h : 224 ≤ b0) (h' : b0 < 240) (hb : n < 3 ∨ b1 < 128 ∨ 192 ≤ b1 ∨ b2 < 128 ∨ 192 ≤ b2) (hb1 : b1 < 256) (hb2 : b2 < 256) : decodeN n b0 b1 b2 b3 = (65533, 1) := by
  rcases decN_ways n b0 b1 b2 b3 with ⟨h, _⟩ | ⟨_, h⟩ | ⟨_, _, _, _, h⟩ | ⟨_, _, _, _, _, _, h⟩ | ⟨_, _, _, _, _, _, _, h⟩ <;> first | exact h | omega
theorem dN_four_bad (n b0 b1 b2 b3 : Nat) (h : 240 ≤ b0) (h' : b0 < 248) (hb : n < 4 ∨ b1 < 128 ∨ 192 ≤ b1 ∨ b2 < 128 ∨ 192 ≤ b2 ∨ b3 < 128 ∨ 192 ≤ b3) (hb1 : b1 < 256) (hb2 : b2 < 256) (hb3 : b3 < 256) : decodeN n b0 b1 b2 b3 = (65533, 1) := by
  rcases decN_ways n b0 b1 b2 b3 with ⟨h, _⟩ | ⟨_, h⟩ | ⟨_, _, _, _, h⟩ | ⟨_, _, _, _, _, _, h⟩ | ⟨_, _, _, _, _, _, _, h⟩ <;> first | exact h | omega
/-- Is a number one of a character in so many bytes? -/
def fits (n : Nat) (v : Int) : Bool := !(decide (v < (if n = 2 then 128 else if n = 3 then 2048 else 65536)) || decide (v > 1114111) || (decide (v ≥ 55296) && decide (v < 57344)))
theorem dN_two (n b0 b1 b2 b3 : Nat) (h : 192 ≤ b0) (h' : b0 < 224) (hn : 2 ≤ n) (c1 : 128 ≤ b1) (c1' : b1 < 192) :
    decodeN n b0 b1 b2 b3 = if fits 2 (((b0 : Int) - 192) * 64 + b1 - 128) = true then ((((b0 : Int) - 192) * 64 + b1 - 128).toNat, 2) else (65533, 1) := by
  by_cases hf : fits 2 (((b0 : Int) - 192) * 64 + b1 - 128) = true
  · rw [if_pos hf]
    simp [fits] at hf
    unfold decodeN
    rw [if_neg (by omega), if_pos ⟨by omega, by omega, by omega⟩, if_pos (by omega)]
    congr 1; omega
  · rw [if_neg hf]
    simp [fits] at hf
    unfold decodeN
    rw [if_neg (by omega), if_pos ⟨by omega, by omega, by omega⟩, if_neg (by omega)]
theorem dN_three (n b0 b1 b2 b3 : Nat) (h : 224 ≤ b0) (h' : b0 < 240) (hn : 3 ≤ n) (c1 : 128 ≤ b1) (c1' : b1 < 192) (c2 : 128 ≤ b2) (c2' : b2 < 192) :
    decodeN n b0 b1 b2 b3 = if fits 3 ((((b0 : Int) - 224) * 64 + b1 - 128) * 64 + b2 - 128) = true then (((((b0 : Int) - 224) * 64 + b1 - 128) * 64 + b2 - 128).toNat, 3) else (65533, 1) := by
  by_cases hf : fits 3 ((((b0 : Int) - 224) * 64 + b1 - 128) * 64 + b2 - 128) = true
  · rw [if_pos hf]
    simp [fits] at hf
    unfold decodeN
    rw [if_neg (by omega), if_neg (by omega), if_pos ⟨by omega, ⟨by omega, by omega⟩, by omega, by omega⟩, if_pos (by omega)]
    congr 1; omega
  · rw [if_neg hf]
    simp [fits] at hf
    unfold decodeN
    rw [if_neg (by omega), if_neg (by omega), if_pos ⟨by omega, ⟨by omega, by omega⟩, by omega, by omega⟩, if_neg (by omega)]
theorem dN_four (n b0 b1 b2 b3 : Nat) (h : 240 ≤ b0) (h' : b0 < 248) (hn : 4 ≤ n) (c1 : 128 ≤ b1) (c1' : b1 < 192) (c2 : 128 ≤ b2) (c2' : b2 < 192) (c3 : 128 ≤ b3) (c3' : b3 < 192) :
    decodeN n b0 b1 b2 b3 = if fits 4 (((((b0 : Int) - 240) * 64 + b1 - 128) * 64 + b2 - 128) * 64 + b3 - 128) = true then ((((((b0 : Int) - 240) * 64 + b1 - 128) * 64 + b2 - 128) * 64 + b3 - 128).toNat, 4) else (65533, 1) := by
  by_cases hf : fits 4 (((((b0 : Int) - 240) * 64 + b1 - 128) * 64 + b2 - 128) * 64 + b3 - 128) = true
  · rw [if_pos hf]
    simp [fits] at hf
    unfold decodeN
    rw [if_neg (by omega), if_neg (by omega), if_neg (by omega), if_pos ⟨by omega, ⟨by omega, by omega⟩, ⟨by omega, by omega⟩, by omega, by omega⟩, if_pos (by omega)]
    congr 1; omega
  · rw [if_neg hf]
    simp [fits] at hf
    unfold decodeN
    rw [if_neg (by omega), if_neg (by omega), if_neg (by omega), if_pos ⟨by omega, ⟨by omega, by omega⟩, ⟨by omega, by omega⟩, by omega, by omega⟩, if_neg (by omega)]

/-- The three answers, as values. -/
def trip (l : List UInt8) : Ending := .returned (.tuple #[.int .i64 (dec l).1, .int .i64 (dec l).2, .bool (okc l)])
theorem trip_bad {l : List UInt8} (h : dec l = (65533, 1)) : Ending.returned (.tuple #[.int .i64 65533, .int .i64 1, .bool false]) = trip l := by
  unfold trip okc
  rw [h]
  rfl
theorem trip_good {l : List UInt8} {x n : Nat} (h : dec l = (x, n)) (hn : 2 ≤ n ∨ x < 128) {v m : Int} (hv : v = x) (hm : m = n) : Ending.returned (.tuple #[.int .i64 v, .int .i64 m, .bool true]) = trip l := by
  subst hv hm
  unfold trip okc
  rw [h]
  have : decide ((x, n) = (65533, 1)) = false := by simp; omega
  rw [this]
  rfl
end Go.Proofs.YthbmnnnlkgbieaaGreatDoor
