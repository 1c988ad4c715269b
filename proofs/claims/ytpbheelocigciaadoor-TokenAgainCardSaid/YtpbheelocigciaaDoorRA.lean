/- Contracts: what package runes and the document's answer say of a text's characters. -/
import Derived.Test.YtpbheelocigciaaDoorRN
import Derived.Test.YtpbheelocigciaaDoorShA
namespace Go.Proofs.YtpbheelocigciaaDoor
open Go.RowKit

theorem get_of (t : ByteArray) (i : Nat) : t.get! i = t.data.toList.getD i 0 := by
  obtain ⟨⟨l⟩⟩ := t
  show (Array.mk l)[i]! = l.getD i 0
  rw [getElem!_def]
  simp only [List.getD_eq_getElem?_getD]
  cases h : l[i]? with
  | none => simp [h]; rfl
  | some v => simp [h]
theorem decode_zero (t : ByteArray) : Utf8.decode t 0 = dec t.data.toList := by
  rw [Lib.decode_at, get_of, get_of, get_of, get_of]
  unfold dec
  simp
theorem decode_pos (s : ByteArray) (k : Nat) : Utf8.decode s k = dec (tl s k) := by
  rw [Lib.decode_at, get_of, get_of, get_of, get_of, dec_tl]
  rfl
theorem ext_list (s : ByteArray) (i j : Nat) : (s.extract i j).data.toList = (s.data.toList.drop i).take (j - i) := by
  rw [ByteArray.data_extract, Array.toList_extract, List.extract_eq_take_drop]
theorem ext_end (s : ByteArray) (k : Nat) : (s.extract k s.size).data.toList = tl s k := by
  rw [ext_list]
  exact List.take_of_length_le (by simp)
theorem runeCount_cnt (s : ByteArray) : Lib.runeCount s = cnt s.data.toList := by
  have key : ∀ f k, s.size - k ≤ f → Lib.runeCountFrom s f k = cnt (tl s k) := by
    intro f
    induction f with
    | zero =>
      intro k hk
      rw [tl_end s k (by omega), cnt_nil]
      rfl
    | succ f ih =>
      intro k hk
      unfold Lib.runeCountFrom
      by_cases h : k < s.size
      · rw [if_pos h, decode_pos, cnt_step (tl_ne s k h), tl_drop]
        have := dec_w s k h
        rw [ih _ (by omega)]
      · rw [if_neg h, tl_end s k (by omega), cnt_nil]
  exact key s.size 0 (by omega)

abbrev Tabs (w : World) : Prop := Lib.Utf8Tabs 0 1 w

theorem start_any (b : Nat) (hb : b < 256) (w : World) : Calls Tryd.prog 37 #[.int .u8 b] w fun e w' => e = .returned (.bool (!(b / 64 == 2))) ∧ w = w' :=
  (sh_utf8_RuneStart b w (by omega) (by omega)).mono fun e w' ⟨he, hw⟩ => ⟨by
    rw [he]
    exact rb (by simp only [Lib.runeStart, bne_iff_ne, ne_eq, Bool.not_eq_true', beq_eq_false_iff_ne]; omega), hw.symm⟩

set_option maxHeartbeats 1000000 in
theorem next_in (s : ByteArray) (k : Nat) (w : World) (hT : Tabs w) (_hs : s.size ≤ 100000) (hk : k < s.size) :
    Calls Tryd.prog 17 #[.string s, .int .i64 k] w fun e w' => e = .returned (.tuple #[.int .i32 (dec (tl s k)).1, .int .i64 (dec (tl s k)).2]) ∧ Below w.heap.size w w' := by
  have c := sh_utf8_DecodeRuneInString (s.extract k s.size) w hT
  have e1 : Lib.decodeGo (s.extract k s.size) = dec (tl s k) := by
    unfold Lib.decodeGo
    rw [if_neg (by rw [ByteArray.size_extract]; omega), decode_zero, ext_end]
  rw [e1] at c
  have C := Lib.hid c
  have h1 : ¬ ((s.size : Int) ≤ (k : Int)) := by omega
  clear c e1
  go_enter Tryd.func17, Tryd.ntmps17
  go_wp2_with fail
  refine C.out.mono ?_
  rintro e w1 ⟨rfl, hb⟩
  have HB := Lib.hid hb
  clear hb
  go_wp2_with fail
  go_ret2
  exact ⟨rfl, HB.out⟩

set_option maxHeartbeats 1000000 in
theorem next_out (s : ByteArray) (a : Int) (w : World) (_hs : s.size ≤ 100000) (hk : a < 0 ∨ s.size ≤ a) :
    Calls Tryd.prog 17 #[.string s, .int .i64 a] w fun e w' => e = .returned (.tuple #[.int .i32 0, .int .i64 0]) ∧ w = w' := by
  by_cases h : a < 0
  · go_enter Tryd.func17, Tryd.ntmps17
    go_wp2_with fail
    go_ret2
    exact ⟨rfl, rfl⟩
  · have h1 : (s.size : Int) ≤ a := by omega
    clear hk
    go_enter Tryd.func17, Tryd.ntmps17
    go_wp2_with fail
    go_ret2
    exact ⟨rfl, rfl⟩

set_option maxHeartbeats 1000000 in
theorem count_any (s : ByteArray) (w : World) (hs : s.size ≤ 100000) :
    Calls Tryd.prog 15 #[.string s] w fun e w' => e = .returned (.int .i64 (cnt s.data.toList)) ∧ Below w.heap.size w w' := by
  have c := sh_utf8_RuneCountInString s w (by omega)
  rw [runeCount_cnt] at c
  have C := Lib.hid c
  clear c
  go_enter Tryd.func15, Tryd.ntmps15
  go_wp2_with fail
  refine C.out.mono ?_
  rintro e w1 ⟨rfl, pos, rfl⟩
  go_wp2_with fail
  go_ret
  exact ⟨rfl, (Below.refl _ _).alloc (Nat.le_refl _) _⟩

set_option maxHeartbeats 1000000 in
theorem begins_any (s : ByteArray) (k : Nat) (w : World) (_hs : s.size ≤ 100000) (hk : k < s.size) :
    Calls Tryd.prog 19 #[.string s, .int .i64 k] w fun e w' => e = .returned (.bool (!(gb s k / 64 == 2))) ∧ w = w' := by
  obtain ⟨B, hB⟩ : ∃ B : Bool, B = (!(gb s k / 64 == 2)) := ⟨_, rfl⟩
  have c := start_any (gb s k) (gb_lt s k) w
  rw [← hB] at c ⊢
  rw [← gb_of s k hk] at c
  have C := Lib.hid c
  have h1 : ¬ ((s.size : Int) ≤ (k : Int)) := by omega
  clear c hB
  go_enter Tryd.func19, Tryd.ntmps19
  go_wp2_with fail
  refine C.out.mono ?_
  rintro e w1 ⟨rfl, rfl⟩
  go_wp2_with fail
  go_ret
  exact ⟨rfl, rfl⟩
set_option maxHeartbeats 1000000 in
set_option maxRecDepth 100000 in
theorem begins_end (s : ByteArray) (a : Int) (w : World) (hs : s.size ≤ 100000) (ha : a = s.size) :
    Calls Tryd.prog 19 #[.string s, .int .i64 a] w fun e w' => e = .returned (.bool true) ∧ w = w' := by
  have h1 : (s.size : Int) ≤ a := by omega
  have h2 : (s.size : Int) ≥ a := by omega
  have h3 : ¬ a < 0 := by omega
  have HA := Lib.hid ha
  clear ha
  go_enter Tryd.func19, Tryd.ntmps19
  go_wp2_with fail
  go_ret
  exact ⟨rb (by simp [HA.out]), rfl⟩
set_option maxHeartbeats 1000000 in
theorem begins_out (s : ByteArray) (a : Int) (w : World) (hs : s.size ≤ 100000) (hk : a < 0 ∨ s.size < a) :
    Calls Tryd.prog 19 #[.string s, .int .i64 a] w fun e w' => e = .returned (.bool false) ∧ w = w' := by
  by_cases h : a < 0
  · have h2 : (a == (s.size : Int)) = false := by simp; omega
    go_enter Tryd.func19, Tryd.ntmps19
    go_wp2_with fail
    go_ret
    exact ⟨rfl, rfl⟩
  · have h1 : (s.size : Int) ≤ a := by omega
    have h2 : (a == (s.size : Int)) = false := by simp; omega
    clear hk
    go_enter Tryd.func19, Tryd.ntmps19
    go_wp2_with fail
    go_ret
    exact ⟨rfl, rfl⟩
end Go.Proofs.YtpbheelocigciaaDoor
