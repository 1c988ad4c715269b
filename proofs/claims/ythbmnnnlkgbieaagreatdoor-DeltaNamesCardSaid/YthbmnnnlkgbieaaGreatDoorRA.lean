/- Contracts: what package runes and the document's answer say of a text's characters. -/
import Derived.Test.YthbmnnnlkgbieaaGreatDoorRN
import Derived.Test.YthbmnnnlkgbieaaGreatDoorShA
namespace Go.Proofs.YthbmnnnlkgbieaaGreatDoor
open Go.RowKit

theorem get_of (t : ByteArray) (i : Nat) : t.get! i = t.data.toList.getD i 0 := by
  obtain ⟨⟨l⟩⟩ := t
  show (Array.mk l)[i]! = l.getD i 0
  rw [getElem!_def]
  simp only [List.getD_eq_getElem?_getD]
  cases h : l[i]? with
  | none => simp [h]; rfl
  | some v => simp [h]
theorem decode_zero (t : ByteArray) : Utf8.decode t 0 = dec t.data.toList := by
  rw [Lib.decode_at, get_of, get_of, get_of, get_of]
  unfold dec
  simp
theorem decode_pos (s : ByteArray) (k : Nat) : Utf8.decode s k = dec (tl s k) := by
  rw [Lib.decode_at, get_of, get_of, get_of, get_of, dec_tl]
  rfl
theorem ext_list (s : ByteArray) (i j : Nat) : (s.extract i j).data.toList = (s.data.toList.drop i).take (j - i) := by
  rw [ByteArray.data_extract, Array.toList_extract, List.extract_eq_take_drop]
theorem ext_end (s : ByteArray) (k : Nat) : (s.extract k s.size).data.toList = tl s k := by
  rw [ext_list]
  exact List.take_of_length_le (by simp)
abbrev Tabs (w : World) : Prop := Lib.Utf8Tabs 1 2 w

set_option maxHeartbeats 1000000 in
theorem next_in (s : ByteArray) (k : Nat) (w : World) (hT : Tabs w) (_hs : s.size ≤ 100000) (hk : k < s.size) :
    Calls Tryz.prog 51 #[.string s, .int .i64 k] w fun e w' => e = .returned (.tuple #[.int .i32 (dec (tl s k)).1, .int .i64 (dec (tl s k)).2]) ∧ Below w.heap.size w w' := by
  have c := sh_utf8_DecodeRuneInString (s.extract k s.size) w hT
  have e1 : Lib.decodeGo (s.extract k s.size) = dec (tl s k) := by
    unfold Lib.decodeGo
    rw [if_neg (by rw [ByteArray.size_extract]; omega), decode_zero, ext_end]
  rw [e1] at c
  have C := Lib.hid c
  have h1 : ¬ ((s.size : Int) ≤ (k : Int)) := by omega
  clear c e1
  go_enter Tryz.func51, Tryz.ntmps51
  go_wp2_with fail
  refine C.out.mono ?_
  rintro e w1 ⟨rfl, hb⟩
  have HB := Lib.hid hb
  clear hb
  go_wp2_with fail
  go_ret2
  exact ⟨rfl, HB.out⟩

set_option maxHeartbeats 1000000 in
theorem next_out (s : ByteArray) (a : Int) (w : World) (_hs : s.size ≤ 100000) (hk : a < 0 ∨ s.size ≤ a) :
    Calls Tryz.prog 51 #[.string s, .int .i64 a] w fun e w' => e = .returned (.tuple #[.int .i32 0, .int .i64 0]) ∧ w = w' := by
  by_cases h : a < 0
  · go_enter Tryz.func51, Tryz.ntmps51
    go_wp2_with fail
    go_ret2
    exact ⟨rfl, rfl⟩
  · have h1 : (s.size : Int) ≤ a := by omega
    clear hk
    go_enter Tryz.func51, Tryz.ntmps51
    go_wp2_with fail
    go_ret2
    exact ⟨rfl, rfl⟩

end Go.Proofs.YthbmnnnlkgbieaaGreatDoor
