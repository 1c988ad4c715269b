/- Contracts: keys, numbers, strings and signs at a text's beginning. -/
import Derived.Test.YthbmnnnlkgbieaaGreatDoorTA
import Derived.Test.YthbmnnnlkgbieaaGreatDoorMR1
import Derived.Test.YthbmnnnlkgbieaaGreatDoorShB
import Derived.WideLaws
import Derived.Lib.ConvBytes
namespace Go.Proofs.YthbmnnnlkgbieaaGreatDoor
open Go.RowKit

def keys : List (List UInt8) := [[100, 101, 102], [100, 121, 110], [101, 108, 115, 101], [102, 110], [105, 102], [105, 110, 112, 117, 116], [105, 110, 116], [108, 101, 116], [112, 114, 105, 110, 116], [114, 101, 116, 117, 114, 110], [115, 116, 114], [117, 115, 101], [119, 104, 105, 108, 101]]
def keyL (l : List UInt8) : Bool := keys.contains l
set_option maxHeartbeats 2000000 in
theorem key_any (s : ByteArray) (w : World) : Calls Tryz.prog 80 #[.string s] w fun e w' => e = .returned (.bool (keyL s.data.toList)) ∧ w = w' := by
  rw [← ByteArray.toList_eq]
  go_enter Tryz.func80, Tryz.ntmps80
  go_wp2
  all_goals
    go_ret
    exact ⟨rb (by simp_all [keyL, keys]), rfl⟩

/-- The two errors of numbers stand in the library's variables. -/
def Errs (w : World) : Prop := (∃ t p, w.cell? ⟨3, 0, none⟩ = some (.iface t p)) ∧ (∃ t p, w.cell? ⟨4, 0, none⟩ = some (.iface t p))
theorem Errs.below {w w' : World} (h : Errs w) (hb : Below w.heap.size w w') : Errs w' := by
  obtain ⟨⟨t, p, h1⟩, ⟨u, q, h2⟩⟩ := h
  exact ⟨⟨t, p, (hb.cell (World.block_lt_of_cell? _ _ h1)).trans h1⟩, ⟨u, q, (hb.cell (World.block_lt_of_cell? _ _ h2)).trans h2⟩⟩
/-- Is a text a number of 64 bits? -/
def numOk (l : List UInt8) : Bool := match Lib.parseIntB 64 l with
  | .ok _ => true
  | _ => false
/-- What reading a number comes to. -/
def Parsed (b : Bool) (w : World) (e : Ending) (w' : World) : Prop :=
  (∃ v, (b = true ∧ e = .returned (.tuple #[.int .i64 v, .nilIface])) ∨ (b = false ∧ ∃ N, e = .returned (.tuple #[.int .i64 v, .iface 139 (.pointer (some ⟨N, 0, none⟩))]))) ∧ Below w.heap.size w w'
theorem bytesWorld_below (w : World) (s : ByteArray) : Below w.heap.size w (Lib.bytesWorld w 5 s) :=
  ⟨rfl, rfl, rfl, by rw [Lib.bytesWorld_size]; omega, fun k hk => Lib.bytesWorld_at_old w 5 s k hk⟩
theorem parse_any (s : ByteArray) (hs : s.size ≤ 100000) (w : World) (he : Errs w) : Calls Tryz.prog 81 #[.string s, .int .i64 10, .int .i64 64] w (Parsed (numOk s.data.toList) w) := by
  obtain ⟨⟨t, p, h1⟩, ⟨u, q, h2⟩⟩ := he
  unfold numOk
  cases h : Lib.parseIntB 64 s.data.toList with
  | ok v =>
    refine (sh_strconv_ParseInt_10_at64_ok s (by omega) v h w).mono ?_
    rintro e w' ⟨he, hw⟩
    refine ⟨⟨v, .inl ⟨rfl, he⟩⟩, ?_⟩
    rcases hw with rfl | ⟨t, rfl⟩
    · exact Below.refl _ _
    · exact bytesWorld_below w t
  | range =>
    refine (sh_strconv_ParseInt_10_at64_range s (by omega) h _ w h2 (.inr ⟨_, _, rfl⟩)).mono ?_
    rintro e w' ⟨N, he, _, _, hb⟩
    exact ⟨⟨_, .inr ⟨rfl, N, he⟩⟩, hb⟩
  | _ =>
    refine (Any.strconv_ParseInt_10_at64_syntax sh_laysC174 s (by omega) h _ w h1 (.inr ⟨_, _, rfl⟩)).mono ?_
    rintro e w' ⟨N, he, _, _, hb⟩
    exact ⟨⟨_, .inr ⟨rfl, N, he⟩⟩, hb⟩

/-- Three numbers, as a function answers them: a kind, how many bytes, what is wrong. -/
def tri (x : Nat × Nat × Nat) : Ending := .returned (.tuple #[.int .i64 x.1, .int .i64 x.2.1, .int .i64 x.2.2])
def wordL (l : List UInt8) : Nat × Nat × Nat := if keyL (l.take (wLen l)) = true then (2, wLen l, 0) else if wLen l > 40 then (0, 0, 26) else (1, wLen l, 0)
def numL (l : List UInt8) : Nat × Nat × Nat := if numOk (l.take (wLen l)) = true then (3, wLen l, 0) else (0, 0, 23)
def qLong (l : List UInt8) : Nat := min (1 + qLen (l.drop 1) + 1) l.length
def quotL (l : List UInt8) : Nat × Nat × Nat := if (unq (l.take (qLong l))).isSome = true then (4, qLong l, 0) else (0, 0, 22)
def signs : List UInt8 := [40, 41, 123, 125, 44, 59, 58, 46, 61, 43, 45, 42, 60]
def signL (l : List UInt8) : Nat × Nat × Nat := if Lib.hasPrefix l [61, 61] = true then (5, 2, 0) else if 0 ≤ Lib.indexByte signs (l.getD 0 0) then (5, 1, 0) else (0, 0, 21)

theorem ext_pre' (s : ByteArray) (n : Nat) : (s.extract 0 n).data.toList = s.data.toList.take n := by
  rw [ByteArray.data_extract, Array.toList_extract, List.extract_eq_take_drop, List.drop_zero, Nat.sub_zero]
theorem wLen_le (l : List UInt8) : wLen l ≤ l.length := runM_le _ _ _ _
theorem tri_eq {x : Nat × Nat × Nat} {a b c : Nat} (h : x = (a, b, c)) : Ending.returned (.tuple #[.int .i64 (a : Int), .int .i64 (b : Int), .int .i64 (c : Int)]) = tri x := by rw [h]; rfl

set_option maxHeartbeats 1000000 in
theorem word_any (s : ByteArray) (hs : s.size ≤ 100000) (w : World) : Calls Tryz.prog 68 #[.string s] w fun e w' => e = tri (wordL s.data.toList) ∧ w = w' := by
  have c1 := wlen_any s hs w
  have hle := wLen_le s.data.toList
  rw [len_list] at hle
  have c2 := key_any (s.extract 0 (wLen s.data.toList)) w
  rw [ext_pre'] at c2
  obtain ⟨x, hx⟩ : ∃ x, x = wordL s.data.toList := ⟨_, rfl⟩
  rw [← hx]
  unfold wordL at hx
  obtain ⟨n, hn⟩ : ∃ n, n = wLen s.data.toList := ⟨_, rfl⟩
  rw [← hn] at c1 hle c2 hx
  have hnz : (n : Int) ≤ (s.size : Int) := by omega
  cases hk : keyL (s.data.toList.take n)
  · rw [hk] at c2 hx
    rw [if_neg (by decide)] at hx
    have C1 := Lib.hid c1
    have C2 := Lib.hid c2
    by_cases h40 : n > 40
    · have hz : (n : Int) > 40 := by omega
      rw [if_pos h40] at hx
      have HX := Lib.hid hx
      clear c1 c2 hx hn hk
      go_enter Tryz.func68, Tryz.ntmps68
      go_wp2_with fail
      refine C1.out.mono ?_
      rintro e w1 ⟨rfl, rfl⟩
      go_wp2_with fail
      refine C2.out.mono ?_
      rintro e w1 ⟨rfl, rfl⟩
      go_wp2_with fail
      go_ret3
      exact ⟨tri_eq (a := 0) (b := 0) (c := 26) HX.out, rfl⟩
    · have hz : ¬ (n : Int) > 40 := by omega
      rw [if_neg h40] at hx
      have HX := Lib.hid hx
      clear c1 c2 hx hn hk
      go_enter Tryz.func68, Tryz.ntmps68
      go_wp2_with fail
      refine C1.out.mono ?_
      rintro e w1 ⟨rfl, rfl⟩
      go_wp2_with fail
      refine C2.out.mono ?_
      rintro e w1 ⟨rfl, rfl⟩
      go_wp2_with fail
      go_ret3
      exact ⟨tri_eq (a := 1) (b := n) (c := 0) HX.out, rfl⟩
  · rw [hk] at c2 hx
    rw [if_pos rfl] at hx
    have C1 := Lib.hid c1
    have C2 := Lib.hid c2
    have HX := Lib.hid hx
    clear c1 c2 hx hn hk
    go_enter Tryz.func68, Tryz.ntmps68
    go_wp2_with fail
    refine C1.out.mono ?_
    rintro e w1 ⟨rfl, rfl⟩
    go_wp2_with fail
    refine C2.out.mono ?_
    rintro e w1 ⟨rfl, rfl⟩
    go_wp2_with fail
    go_ret3
    exact ⟨tri_eq (a := 2) (b := n) (c := 0) HX.out, rfl⟩

set_option maxHeartbeats 1000000 in
theorem number_any (s : ByteArray) (hs : s.size ≤ 100000) (w : World) (hE : Errs w) : Calls Tryz.prog 70 #[.string s] w fun e w' => e = tri (numL s.data.toList) ∧ Below w.heap.size w w' := by
  have c1 := wlen_any s hs w
  have hle := wLen_le s.data.toList
  rw [len_list] at hle
  have c2 := parse_any (s.extract 0 (wLen s.data.toList)) (by rw [ByteArray.size_extract]; omega) w hE
  rw [ext_pre'] at c2
  obtain ⟨x, hx⟩ : ∃ x, x = numL s.data.toList := ⟨_, rfl⟩
  rw [← hx]
  unfold numL at hx
  obtain ⟨n, hn⟩ : ∃ n, n = wLen s.data.toList := ⟨_, rfl⟩
  rw [← hn] at c1 hle c2 hx
  have hnz : (n : Int) ≤ (s.size : Int) := by omega
  have C1 := Lib.hid c1
  have C2 := Lib.hid c2
  have HX := Lib.hid hx
  clear c1 c2 hx hn hE
  go_enter Tryz.func70, Tryz.ntmps70
  go_wp2_with fail
  refine C1.out.mono ?_
  rintro e w1 ⟨rfl, rfl⟩
  go_wp2_with fail
  refine C2.out.mono ?_
  rintro e w1 ⟨⟨v, hv⟩, hb⟩
  have HB := Lib.hid hb
  clear hb
  rcases hv with ⟨hok, rfl⟩ | ⟨hok, N, rfl⟩
  · have HX2 := HX.out
    rw [hok, if_pos rfl] at HX2
    have HX3 := Lib.hid HX2
    clear hok HX2
    go_wp2_with fail
    go_ret3
    exact ⟨tri_eq (a := 3) (b := n) (c := 0) HX3.out, HB.out⟩
  · have HX2 := HX.out
    rw [hok, if_neg (by decide)] at HX2
    have HX3 := Lib.hid HX2
    clear hok HX2
    go_wp2_with fail
    go_ret3
    exact ⟨tri_eq (a := 0) (b := 0) (c := 23) HX3.out, HB.out⟩
end Go.Proofs.YthbmnnnlkgbieaaGreatDoor
