/- Contracts: keys, numbers, strings and signs at a text's beginning. -/
import Derived.Test.YtifkjngclkklfaaGreatDoorTA
import Derived.Test.YtifkjngclkklfaaGreatDoorMGb
import Derived.WideLaws
import Derived.Lib.ConvBytes
import Derived.Shelf.Small.Utf8
import Derived.Shelf.Unicode.DecodeAny
import Derived.Test.YtifkjngclkklfaaGreatDoorMGa
import Derived.IntWalk
import Derived.StillTailTactics
import Derived.BigRegion
import Derived.RegionTactic
import Derived.ChangeAlike
import Derived.ProofKit
import Derived.OpenShut
namespace Go.Proofs.YtifkjngclkklfaaGreatDoor
open Go.RowKit

def keys : List (List UInt8) := [[100, 101, 102], [100, 121, 110], [101, 108, 115, 101], [102, 110], [105, 102], [105, 110, 112, 117, 116], [105, 110, 116], [108, 101, 116], [112, 114, 105, 110, 116], [114, 101, 116, 117, 114, 110], [115, 116, 114], [117, 115, 101], [119, 104, 105, 108, 101]]
def keyL (l : List UInt8) : Bool := keys.contains l
set_option maxHeartbeats 2000000 in
theorem key_any (s : ByteArray) (w : World) : Calls Tryz.prog 104 #[.string s] w fun e w' => e = .returned (.bool (keyL s.data.toList)) ∧ w = w' := by
  rw [← ByteArray.toList_eq]
  go_enter Tryz.func104, Tryz.ntmps104
  go_wp2
  all_goals
    go_ret
    exact ⟨rb (by simp_all [keyL, keys]), rfl⟩

/-- The two errors of numbers stand in the library's variables. -/
def Errs (w : World) : Prop := (∃ t p, w.cell? ⟨3, 0, none⟩ = some (.iface t p)) ∧ (∃ t p, w.cell? ⟨4, 0, none⟩ = some (.iface t p))
theorem Errs.below {w w' : World} (h : Errs w) (hb : Below w.heap.size w w') : Errs w' := by
  obtain ⟨⟨t, p, h1⟩, ⟨u, q, h2⟩⟩ := h
  exact ⟨⟨t, p, (hb.cell (World.block_lt_of_cell? _ _ h1)).trans h1⟩, ⟨u, q, (hb.cell (World.block_lt_of_cell? _ _ h2)).trans h2⟩⟩
/-- Is a text a number of 64 bits? -/
def numOk (l : List UInt8) : Bool := match Lib.parseIntB 64 l with
  | .ok _ => true
  | _ => false
/-- What reading a number comes to. -/
def Parsed (b : Bool) (w : World) (e : Ending) (w' : World) : Prop :=
  (∃ v, (b = true ∧ e = .returned (.tuple #[.int .i64 v, .nilIface])) ∨ (b = false ∧ ∃ N, e = .returned (.tuple #[.int .i64 v, .iface 167 (.pointer (some ⟨N, 0, none⟩))]))) ∧ Below w.heap.size w w'
theorem bytesWorld_below (w : World) (s : ByteArray) : Below w.heap.size w (Lib.bytesWorld w 5 s) :=
  ⟨rfl, rfl, rfl, by rw [Lib.bytesWorld_size]; omega, fun k hk => Lib.bytesWorld_at_old w 5 s k hk⟩
theorem parse_any (s : ByteArray) (hs : s.size ≤ 100000) (w : World) (he : Errs w) : Calls Tryz.prog 142 #[.string s, .int .i64 10, .int .i64 64] w (Parsed (numOk s.data.toList) w) := by
  obtain ⟨⟨t, p, h1⟩, ⟨u, q, h2⟩⟩ := he
  unfold numOk
  cases h : Lib.parseIntB 64 s.data.toList with
  | ok v =>
    refine (sh_strconv_ParseInt_10_at64_ok s (by omega) v h w).mono ?_
    rintro e w' ⟨he, hw⟩
    refine ⟨⟨v, .inl ⟨rfl, he⟩⟩, ?_⟩
    rcases hw with rfl | ⟨t, rfl⟩
    · exact Below.refl _ _
    · exact bytesWorld_below w t
  | range =>
    refine (sh_strconv_ParseInt_10_at64_range s (by omega) h _ w h2 (.inr ⟨_, _, rfl⟩)).mono ?_
    rintro e w' ⟨N, he, _, _, hb⟩
    exact ⟨⟨_, .inr ⟨rfl, N, he⟩⟩, hb⟩
  | _ =>
    refine (Any.strconv_ParseInt_10_at64_syntax sh_laysC174 s (by omega) h _ w h1 (.inr ⟨_, _, rfl⟩)).mono ?_
    rintro e w' ⟨N, he, _, _, hb⟩
    exact ⟨⟨_, .inr ⟨rfl, N, he⟩⟩, hb⟩

/-- Three numbers, as a function answers them: a kind, how many bytes, what is wrong. -/
def tri (x : Nat × Nat × Nat) : Ending := .returned (.tuple #[.int .i64 x.1, .int .i64 x.2.1, .int .i64 x.2.2])
def wordL (l : List UInt8) : Nat × Nat × Nat := if keyL (l.take (wLen l)) = true then (2, wLen l, 0) else if wLen l > 40 then (0, 0, 26) else (1, wLen l, 0)
def numL (l : List UInt8) : Nat × Nat × Nat := if numOk (l.take (wLen l)) = true then (3, wLen l, 0) else (0, 0, 23)
def qLong (l : List UInt8) : Nat := min (1 + qLen (l.drop 1) + 1) l.length
def quotL (l : List UInt8) : Nat × Nat × Nat := if (unq (l.take (qLong l))).isSome = true then (4, qLong l, 0) else (0, 0, 22)
def signs : List UInt8 := [40, 41, 123, 125, 44, 59, 58, 46, 61, 43, 45, 42, 60]
def signL (l : List UInt8) : Nat × Nat × Nat := if Lib.hasPrefix l [61, 61] = true then (5, 2, 0) else if 0 ≤ Lib.indexByte signs (l.getD 0 0) then (5, 1, 0) else (0, 0, 21)

theorem ext_pre' (s : ByteArray) (n : Nat) : (s.extract 0 n).data.toList = s.data.toList.take n := by
  rw [ByteArray.data_extract, Array.toList_extract, List.extract_eq_take_drop, List.drop_zero, Nat.sub_zero]
theorem wLen_le (l : List UInt8) : wLen l ≤ l.length := runM_le _ _ _ _
theorem tri_eq {x : Nat × Nat × Nat} {a b c : Nat} (h : x = (a, b, c)) : Ending.returned (.tuple #[.int .i64 (a : Int), .int .i64 (b : Int), .int .i64 (c : Int)]) = tri x := by rw [h]; rfl

set_option maxHeartbeats 1000000 in
theorem word_any (s : ByteArray) (hs : s.size ≤ 100000) (w : World) : Calls Tryz.prog 135 #[.string s] w fun e w' => e = tri (wordL s.data.toList) ∧ w = w' := by
  have c1 := wlen_any s (by omega) w
  have hle := wLen_le s.data.toList
  rw [len_list] at hle
  have c2 := key_any (s.extract 0 (wLen s.data.toList)) w
  rw [ext_pre'] at c2
  obtain ⟨x, hx⟩ : ∃ x, x = wordL s.data.toList := ⟨_, rfl⟩
  rw [← hx]
  unfold wordL at hx
  obtain ⟨n, hn⟩ : ∃ n, n = wLen s.data.toList := ⟨_, rfl⟩
  rw [← hn] at c1 hle c2 hx
  have hnz : (n : Int) ≤ (s.size : Int) := by omega
  cases hk : keyL (s.data.toList.take n)
  · rw [hk] at c2 hx
    rw [if_neg (by decide)] at hx
    have C1 := Lib.hid c1
    have C2 := Lib.hid c2
    by_cases h40 : n > 40
    · have hz : (n : Int) > 40 := by omega
      rw [if_pos h40] at hx
      have HX := Lib.hid hx
      clear c1 c2 hx hn hk
      go_enter Tryz.func135, Tryz.ntmps135
      go_wp2_with fail
      refine C1.out.mono ?_
      rintro e w1 ⟨rfl, rfl⟩
      go_wp2_with fail
      refine C2.out.mono ?_
      rintro e w1 ⟨rfl, rfl⟩
      go_wp2_with fail
      go_ret3
      exact ⟨tri_eq (a := 0) (b := 0) (c := 26) HX.out, rfl⟩
    · have hz : ¬ (n : Int) > 40 := by omega
      rw [if_neg h40] at hx
      have HX := Lib.hid hx
      clear c1 c2 hx hn hk
      go_enter Tryz.func135, Tryz.ntmps135
      go_wp2_with fail
      refine C1.out.mono ?_
      rintro e w1 ⟨rfl, rfl⟩
      go_wp2_with fail
      refine C2.out.mono ?_
      rintro e w1 ⟨rfl, rfl⟩
      go_wp2_with fail
      go_ret3
      exact ⟨tri_eq (a := 1) (b := n) (c := 0) HX.out, rfl⟩
  · rw [hk] at c2 hx
    rw [if_pos rfl] at hx
    have C1 := Lib.hid c1
    have C2 := Lib.hid c2
    have HX := Lib.hid hx
    clear c1 c2 hx hn hk
    go_enter Tryz.func135, Tryz.ntmps135
    go_wp2_with fail
    refine C1.out.mono ?_
    rintro e w1 ⟨rfl, rfl⟩
    go_wp2_with fail
    refine C2.out.mono ?_
    rintro e w1 ⟨rfl, rfl⟩
    go_wp2_with fail
    go_ret3
    exact ⟨tri_eq (a := 2) (b := n) (c := 0) HX.out, rfl⟩

set_option maxHeartbeats 1000000 in
theorem number_any (s : ByteArray) (hs : s.size ≤ 100000) (w : World) (hE : Errs w) : Calls Tryz.prog 136 #[.string s] w fun e w' => e = tri (numL s.data.toList) ∧ Below w.heap.size w w' := by
  have c1 := wlen_any s (by omega) w
  have hle := wLen_le s.data.toList
  rw [len_list] at hle
  have c2 := parse_any (s.extract 0 (wLen s.data.toList)) (by rw [ByteArray.size_extract]; omega) w hE
  rw [ext_pre'] at c2
  obtain ⟨x, hx⟩ : ∃ x, x = numL s.data.toList := ⟨_, rfl⟩
  rw [← hx]
  unfold numL at hx
  obtain ⟨n, hn⟩ : ∃ n, n = wLen s.data.toList := ⟨_, rfl⟩
  rw [← hn] at c1 hle c2 hx
  have hnz : (n : Int) ≤ (s.size : Int) := by omega
  have C1 := Lib.hid c1
  have C2 := Lib.hid c2
  have HX := Lib.hid hx
  clear c1 c2 hx hn hE
  go_enter Tryz.func136, Tryz.ntmps136
  go_wp2_with fail
  refine C1.out.mono ?_
  rintro e w1 ⟨rfl, rfl⟩
  go_wp2_with fail
  refine C2.out.mono ?_
  rintro e w1 ⟨⟨v, hv⟩, hb⟩
  have HB := Lib.hid hb
  clear hb
  rcases hv with ⟨hok, rfl⟩ | ⟨hok, N, rfl⟩
  · have HX2 := HX.out
    rw [hok, if_pos rfl] at HX2
    have HX3 := Lib.hid HX2
    clear hok HX2
    go_wp2_with fail
    go_ret3
    exact ⟨tri_eq (a := 3) (b := n) (c := 0) HX3.out, HB.out⟩
  · have HX2 := HX.out
    rw [hok, if_neg (by decide)] at HX2
    have HX3 := Lib.hid HX2
    clear hok HX2
    go_wp2_with fail
    go_ret3
    exact ⟨tri_eq (a := 0) (b := 0) (c := 23) HX3.out, HB.out⟩
end Go.Proofs.YtifkjngclkklfaaGreatDoor
/- The library's contracts of UTF-8 at this program: out of the shelf, in plain words. -/
namespace Go.Proofs.YtifkjngclkklfaaGreatDoor
open Go.Shelf Go.RowKit Go.Proofs
def sh_lays260_ren : Go.Shelf.Ren := ⟨fun | 260 => 141 | n => n, fun | 9 => 9 | 21 => 21 | 3 => 3 | 4 => 4 | 5 => 5 | 119 => 157 | 0 => 0 | 46 => 80 | 139 => 160 | 138 => 159 | n => n, fun | 3 => 1 | 4 => 2 | n => n⟩
theorem sh_lays260 : Go.Proofs.Lays.n260 Tryz.prog sh_lays260_ren := {
  mixed := by kernel_rfl
  f260 := Tryz.func141.trans (congrArg some (by kernel_rfl))
  t0 := Tryz.underlying0
  a0 := Tryz.isAgg0
  z0 := Tryz.sizeOf0
  v0 := Tryz.zeroValue0
  t3 := Tryz.underlying3
  a3 := Tryz.isAgg3
  z3 := Tryz.sizeOf3
  v3 := Tryz.zeroValue3
  t4 := Tryz.underlying4
  a4 := Tryz.isAgg4
  z4 := Tryz.sizeOf4
  v4 := Tryz.zeroValue4
  t5 := Tryz.underlying5
  a5 := Tryz.isAgg5
  z5 := Tryz.sizeOf5
  v5 := Tryz.zeroValue5
  t9 := Tryz.underlying9
  a9 := Tryz.isAgg9
  z9 := Tryz.sizeOf9
  v9 := Tryz.zeroValue9
  t21 := Tryz.underlying21
  a21 := Tryz.isAgg21
  z21 := Tryz.sizeOf21
  v21 := Tryz.zeroValue21
  t46 := Tryz.underlying80
  a46 := Tryz.isAgg80
  z46 := Tryz.sizeOf80
  v46 := Tryz.zeroValue80
  t119 := Tryz.underlying157
  a119 := Tryz.isAgg157
  z119 := Tryz.sizeOf157
  t138 := Tryz.underlying159
  a138 := Tryz.isAgg159
  z138 := Tryz.sizeOf159
  v138 := Tryz.zeroValue159
  t139 := Tryz.underlying160
  a139 := Tryz.isAgg160
  z139 := Tryz.sizeOf160
  v139 := Tryz.zeroValue160
  g3 := by kernel_rfl
  g4 := by kernel_rfl }
def sh_lays197_ren : Go.Shelf.Ren := ⟨fun | 197 => 132 | 260 => 141 | n => n, fun | 9 => 9 | 21 => 21 | 3 => 3 | 4 => 4 | 5 => 5 | 105 => 134 | 119 => 157 | 0 => 0 | 46 => 80 | 139 => 160 | 138 => 159 | n => n, fun | 3 => 1 | 4 => 2 | n => n⟩
theorem sh_lays197 : Go.Proofs.Lays.n197 Tryz.prog sh_lays197_ren := {
  mixed := by kernel_rfl
  f197 := Tryz.func132.trans (congrArg some (by kernel_rfl))
  f260 := Tryz.func141.trans (congrArg some (by kernel_rfl))
  t0 := Tryz.underlying0
  a0 := Tryz.isAgg0
  z0 := Tryz.sizeOf0
  v0 := Tryz.zeroValue0
  t3 := Tryz.underlying3
  a3 := Tryz.isAgg3
  z3 := Tryz.sizeOf3
  v3 := Tryz.zeroValue3
  t4 := Tryz.underlying4
  a4 := Tryz.isAgg4
  z4 := Tryz.sizeOf4
  v4 := Tryz.zeroValue4
  t5 := Tryz.underlying5
  a5 := Tryz.isAgg5
  z5 := Tryz.sizeOf5
  v5 := Tryz.zeroValue5
  t9 := Tryz.underlying9
  a9 := Tryz.isAgg9
  z9 := Tryz.sizeOf9
  v9 := Tryz.zeroValue9
  t21 := Tryz.underlying21
  a21 := Tryz.isAgg21
  z21 := Tryz.sizeOf21
  v21 := Tryz.zeroValue21
  t46 := Tryz.underlying80
  a46 := Tryz.isAgg80
  z46 := Tryz.sizeOf80
  v46 := Tryz.zeroValue80
  t105 := Tryz.underlying134
  a105 := Tryz.isAgg134
  z105 := Tryz.sizeOf134
  v105 := Tryz.zeroValue134
  t119 := Tryz.underlying157
  a119 := Tryz.isAgg157
  z119 := Tryz.sizeOf157
  t138 := Tryz.underlying159
  a138 := Tryz.isAgg159
  z138 := Tryz.sizeOf159
  v138 := Tryz.zeroValue159
  t139 := Tryz.underlying160
  a139 := Tryz.isAgg160
  z139 := Tryz.sizeOf160
  v139 := Tryz.zeroValue160
  g3 := by kernel_rfl
  g4 := by kernel_rfl }
theorem sh_utf8_DecodeRuneInString (s : ByteArray) (w : World) (hT : Lib.Utf8Tabs 1 2 w) :
    Calls Tryz.prog 132 #[.string s] w fun e w' => e = .returned (.tuple #[.int .i32 (Lib.decodeGo s).1, .int .i64 (Lib.decodeGo s).2]) ∧ Below w.heap.size w w' := Any.utf8_DecodeRuneInString sh_lays197 s w hT
end Go.Proofs.YtifkjngclkklfaaGreatDoor
/- Contracts: what package runes and the document's answer say of a text's characters. -/
namespace Go.Proofs.YtifkjngclkklfaaGreatDoor
open Go.RowKit

theorem get_of (t : ByteArray) (i : Nat) : t.get! i = t.data.toList.getD i 0 := by
  obtain ⟨⟨l⟩⟩ := t
  show (Array.mk l)[i]! = l.getD i 0
  rw [getElem!_def]
  simp only [List.getD_eq_getElem?_getD]
  cases h : l[i]? with
  | none => simp [h]; rfl
  | some v => simp [h]
theorem decode_zero (t : ByteArray) : Utf8.decode t 0 = dec t.data.toList := by
  rw [Lib.decode_at, get_of, get_of, get_of, get_of]
  unfold dec
  simp
theorem decode_pos (s : ByteArray) (k : Nat) : Utf8.decode s k = dec (tl s k) := by
  rw [Lib.decode_at, get_of, get_of, get_of, get_of, dec_tl]
  rfl
theorem ext_list (s : ByteArray) (i j : Nat) : (s.extract i j).data.toList = (s.data.toList.drop i).take (j - i) := by
  rw [ByteArray.data_extract, Array.toList_extract, List.extract_eq_take_drop]
theorem ext_end (s : ByteArray) (k : Nat) : (s.extract k s.size).data.toList = tl s k := by
  rw [ext_list]
  exact List.take_of_length_le (by simp)
abbrev Tabs (w : World) : Prop := Lib.Utf8Tabs 1 2 w

set_option maxHeartbeats 1000000 in
theorem next_in (s : ByteArray) (k : Nat) (w : World) (hT : Tabs w) (_hs : s.size ≤ 100000) (hk : k < s.size) :
    Calls Tryz.prog 117 #[.string s, .int .i64 k] w fun e w' => e = .returned (.tuple #[.int .i32 (dec (tl s k)).1, .int .i64 (dec (tl s k)).2]) ∧ Below w.heap.size w w' := by
  have c := sh_utf8_DecodeRuneInString (s.extract k s.size) w hT
  have e1 : Lib.decodeGo (s.extract k s.size) = dec (tl s k) := by
    unfold Lib.decodeGo
    rw [if_neg (by rw [ByteArray.size_extract]; omega), decode_zero, ext_end]
  rw [e1] at c
  have C := Lib.hid c
  have h1 : ¬ ((s.size : Int) ≤ (k : Int)) := by omega
  clear c e1
  go_enter Tryz.func117, Tryz.ntmps117
  go_wp2_with fail
  refine C.out.mono ?_
  rintro e w1 ⟨rfl, hb⟩
  have HB := Lib.hid hb
  clear hb
  go_wp2_with fail
  go_ret2
  exact ⟨rfl, HB.out⟩

set_option maxHeartbeats 1000000 in
theorem next_out (s : ByteArray) (a : Int) (w : World) (_hs : s.size ≤ 100000) (hk : a < 0 ∨ s.size ≤ a) :
    Calls Tryz.prog 117 #[.string s, .int .i64 a] w fun e w' => e = .returned (.tuple #[.int .i32 0, .int .i64 0]) ∧ w = w' := by
  by_cases h : a < 0
  · go_enter Tryz.func117, Tryz.ntmps117
    go_wp2_with fail
    go_ret2
    exact ⟨rfl, rfl⟩
  · have h1 : (s.size : Int) ≤ a := by omega
    clear hk
    go_enter Tryz.func117, Tryz.ntmps117
    go_wp2_with fail
    go_ret2
    exact ⟨rfl, rfl⟩

end Go.Proofs.YtifkjngclkklfaaGreatDoor
/- Contracts: where a text stops being UTF-8, how many characters it has, by package runes and by the document's answer. -/
namespace Go.Proofs.YtifkjngclkklfaaGreatDoor
open Go.RowKit

/-- All ahead of a place is UTF-8. -/
def Upto (s : ByteArray) (k : Nat) : Prop := badAt s.data.toList = (badAt (tl s k)).map (· + k)
theorem tl_zero (s : ByteArray) : tl s 0 = s.data.toList := rfl
theorem Upto.first (s : ByteArray) : Upto s 0 := by
  unfold Upto
  rw [tl_zero]
  cases badAt s.data.toList <;> simp
theorem Upto.next {s : ByteArray} {k : Nat} (h : Upto s k) (hk : k < s.size) (hok : okc (tl s k) = true) : Upto s (k + (dec (tl s k)).2) := by
  unfold Upto at h ⊢
  rw [h, bad_step (tl_ne s k hk) hok, tl_drop, Option.map_map]
  congr 1
  funext x
  simp only [Function.comp_apply]
  omega
theorem Upto.here {s : ByteArray} {k : Nat} (h : Upto s k) (hk : k < s.size) (hok : okc (tl s k) = false) : badI s.data.toList = k := by
  unfold Upto at h
  rw [bad_here (tl_ne s k hk) hok] at h
  unfold badI
  rw [h]
  simp
theorem Upto.done {s : ByteArray} {k : Nat} (h : Upto s k) (hk : s.size ≤ k) : badI s.data.toList = -1 := by
  unfold Upto at h
  rw [tl_end s k hk, bad_nil] at h
  exact badI_none h

set_option maxHeartbeats 2000000 in
theorem bad_any (s : ByteArray) (w : World) (hT : Tabs w) (hs : s.size ≤ 100000) :
    Calls Tryz.prog 90 #[.string s] w fun e w' => e = .returned (.int .i64 (badI s.data.toList)) ∧ Below w.heap.size w w' := by
  have HT := Lib.hid hT
  clear hT
  go_enter Tryz.func90, Tryz.ntmps90
  go_wp2_with fail
  go_loopg [3] s.size (fun kx a wr => ∃ k : Nat, a = .int .i64 k ∧ k ≤ s.size ∧ s.size - k ≤ kx ∧ Hid (Upto s k) ∧ Hid (Tabs wr) ∧ Hid (Below w.heap.size w wr))
  case atStart => exact ⟨0, rfl, by omega, by omega, Upto.first s, HT.out, Below.refl _ _⟩
  case round =>
    obtain ⟨k, rfl, hk, hkx, HU, HW, HB⟩ := hrel
    by_cases hlt : k < s.size
    · have hlz : (k : Int) < (s.size : Int) := by omega
      have hd := dec_w s k hlt
      obtain ⟨r, hr⟩ : ∃ r, r = (dec (tl s k)).1 := ⟨_, rfl⟩
      obtain ⟨n, hn⟩ : ∃ n, n = (dec (tl s k)).2 := ⟨_, rfl⟩
      have c := next_in s k wr HW.out hs hlt
      rw [← hr, ← hn] at c
      rw [← hn] at hd
      have C := Lib.hid c
      have HR := Lib.hid hr
      have HN := Lib.hid hn
      clear c hr hn
      go_wp2_with fail
      refine C.out.mono ?_
      rintro e w1 ⟨rfl, hb⟩
      have HB1 := Lib.hid (HB.out.trans (hb.mono HB.out.size))
      have HT1 := Lib.hid (Utf8Tabs_below HW.out hb)
      clear hb
      cases hok : okc (tl s k)
      · have hbad := okc_bad hok
        rw [hbad] at HR HN
        obtain rfl := HR.out
        obtain rfl := HN.out
        have HF := Lib.hid (HU.out.here hlt hok)
        clear hbad hok
        go_wp2_with fail
        go_ret
        exact ⟨ri HF.out.symm, HB1.out⟩
      · have hne := okc_ne hok
        have hrn : ¬ (r = 65533 ∧ n = 1) := fun h => hne (Prod.ext (by rw [← HR.out]; exact h.1) (by rw [← HN.out]; exact h.2))
        have HF := Lib.hid (HU.out.next hlt hok)
        rw [← HN.out] at HF
        clear hne hok
        by_cases hr : r = 65533
        · have h1 : ((r : Int) == 65533) = true := by simp; omega
          have h2 : ((n : Int) == 1) = false := by simp; omega
          clear hrn hr
          go_wp2_with fail
          go_roundg (s.size - (k + n))
          case measure => omega
          case rel => exact ⟨k + n, by go_num, by omega, by omega, HF.out, HT1.out, HB1.out⟩
        · have h1 : ((r : Int) == 65533) = false := by simp; omega
          clear hrn hr
          go_wp2_with fail
          go_roundg (s.size - (k + n))
          case measure => omega
          case rel => exact ⟨k + n, by go_num, by omega, by omega, HF.out, HT1.out, HB1.out⟩
    · have hlz : ¬ (k : Int) < (s.size : Int) := by omega
      have HF := Lib.hid (HU.out.done (by omega))
      go_wp2_with fail
      go_ret
      exact ⟨ri HF.out.symm, HB.out⟩

end Go.Proofs.YtifkjngclkklfaaGreatDoor
/- Contracts: the column of a place. -/
namespace Go.Proofs.YtifkjngclkklfaaGreatDoor
open Go.RowKit

/-- Where the line of a place begins. -/
def lst (s : ByteArray) : Nat → Nat
  | 0 => 0
  | k + 1 => if gb s k = 10 then k + 1 else lst s k
theorem lst_le (s : ByteArray) : ∀ k, lst s k ≤ k
  | 0 => Nat.le_refl _
  | k + 1 => by
    have := lst_le s k
    unfold lst
    split <;> omega
theorem lst_hit {s : ByteArray} {k : Nat} (h : gb s k = 10) : lst s (k + 1) = k + 1 := by simp [lst, h]
theorem lst_miss {s : ByteArray} {k : Nat} (h : gb s k ≠ 10) : lst s (k + 1) = lst s k := by simp [lst, h]

end Go.Proofs.YtifkjngclkklfaaGreatDoor
/- Contracts: strings and signs at a text's beginning; the first token. -/
namespace Go.Proofs.YtifkjngclkklfaaGreatDoor
open Go.RowKit

theorem qLen_le (l : List UInt8) : qLen l ≤ l.length := runM_le _ _ _ _
set_option maxHeartbeats 1000000 in
theorem quoted_any (s : ByteArray) (hs : s.size ≤ 100000) (h0 : 0 < s.size) (w : World) : Calls Tryz.prog 137 #[.string s] w fun e w' => e = tri (quotL s.data.toList) ∧ Below w.heap.size w w' := by
  have hmf : ∀ (fn : Fn) (first cap : Array Value) (w : World), (Instr.makeFunc fn first cap).run Tryz.prog w = .ok (.func fn first cap) w := fun _ _ _ _ => rfl
  have c1 := prefix_quot (s.extract 1 s.size) (by rw [ByteArray.size_extract]; omega) w.heap.size (w.alloc (.cells #[.bool false] 4)) (RowB.new w 4 _)
  have hql := qLen_le (s.data.toList.drop 1)
  rw [List.length_drop, len_list] at hql
  have e1 : (s.extract 1 s.size).data.toList = s.data.toList.drop 1 := ext_end s 1
  rw [e1] at c1
  obtain ⟨x, hx⟩ : ∃ x, x = quotL s.data.toList := ⟨_, rfl⟩
  rw [← hx]
  unfold quotL qLong at hx
  rw [len_list] at hx
  obtain ⟨q, hq⟩ : ∃ q, q = qLen (s.data.toList.drop 1) := ⟨_, rfl⟩
  rw [← hq] at hx hql
  rw [show runM sls qGo false (s.data.toList.drop 1) = q from hq.symm] at c1
  obtain ⟨n, hn⟩ : ∃ n, n = min (1 + q + 1) s.size := ⟨_, rfl⟩
  rw [← hn] at hx
  have c2 := fun w => unquote_any (s.extract 0 n) w (by rw [ByteArray.size_extract]; omega)
  rw [ext_pre'] at c2
  have hns : n ≤ s.size := by omega
  have hz0 : (1 : Int) ≤ (s.size : Int) := by omega
  have hnz : (n : Int) ≤ (s.size : Int) := by omega
  have EN : min (1 + (q : Int) + 1) (s.size : Int) = (n : Int) := by omega
  have C1 := Lib.hid c1
  have C2 := Lib.hid c2
  have HX := Lib.hid hx
  clear c1 c2 hx hq e1 hn
  go_enter Tryz.func137, Tryz.ntmps137
  go_wp2_with fail
  refine C1.out.mono ?_
  rintro e w1 ⟨rfl, hb⟩
  have HB := Lib.hid (((Below.refl _ w).alloc (Nat.le_refl _) _).trans hb)
  clear hb
  go_wp2_with fail
  refine (C2.out _).mono ?_
  rintro e w2 ⟨he, hb⟩
  have HB2 := Lib.hid (HB.out.trans (hb.mono HB.out.size))
  clear hb
  unfold uq at he
  have HX2 := HX.out
  cases hu : unq (s.data.toList.take n) with
  | none =>
    rw [hu] at he HX2
    rw [if_neg (by decide)] at HX2
    have HX3 := Lib.hid HX2
    simp only at he
    subst he
    clear hu HX2
    go_wp2_with fail
    go_ret3
    exact ⟨tri_eq (a := 0) (b := 0) (c := 22) HX3.out, HB2.out⟩
  | some o =>
    rw [hu] at he HX2
    rw [if_pos (show (some o).isSome = true from rfl)] at HX2
    have HX3 := Lib.hid HX2
    simp only at he
    subst he
    clear hu HX2
    go_wp2_with fail
    go_ret3
    exact ⟨tri_eq (a := 4) (b := n) (c := 0) HX3.out, HB2.out⟩

set_option maxHeartbeats 1000000 in
theorem sign_any (s : ByteArray) (_hs : s.size ≤ 100000) (h0 : 0 < s.size) (w : World) : Calls Tryz.prog 138 #[.string s] w fun e w' => e = tri (signL s.data.toList) ∧ w = w' := by
  have c1 := sh_strings_HasPrefix s ⟨#[61, 61]⟩ w
  have e1 : (ByteArray.mk #[61, 61]).data.toList = [61, 61] := rfl
  rw [e1] at c1
  have c2 := sh_strings_IndexByte ⟨#[40, 41, 123, 125, 44, 59, 58, 46, 61, 43, 45, 42, 60]⟩ (s[0]'h0).toNat w
  have e2 : (ByteArray.mk #[40, 41, 123, 125, 44, 59, 58, 46, 61, 43, 45, 42, 60]).data.toList = signs := rfl
  have e3 : ((s[0]'h0).toNat : Int).toNat.toUInt8 = s.data.toList.getD 0 0 := by
    rw [Int.toNat_natCast]
    have : s.data.toList.getD 0 0 = s[0]'h0 := by
      rw [List.getD_eq_getElem?_getD, List.getElem?_eq_getElem (by simpa using h0)]
      rfl
    rw [this]
    simp
  rw [e2, e3] at c2
  obtain ⟨x, hx⟩ : ∃ x, x = signL s.data.toList := ⟨_, rfl⟩
  rw [← hx]
  unfold signL at hx
  obtain ⟨k, hk⟩ : ∃ k, k = Lib.indexByte signs (s.data.toList.getD 0 0) := ⟨_, rfl⟩
  rw [← hk] at c2 hx
  cases hp : Lib.hasPrefix s.data.toList [61, 61]
  · rw [hp] at c1 hx
    rw [if_neg (by decide)] at hx
    have C1 := Lib.hid c1
    have C2 := Lib.hid c2
    by_cases hk0 : 0 ≤ k
    · have hz : k ≥ 0 := hk0
      rw [if_pos hk0] at hx
      have HX := Lib.hid hx
      clear c1 c2 hx hk hp e1 e2 e3 hk0
      go_enter Tryz.func138, Tryz.ntmps138
      go_wp2_with fail
      refine C1.out.mono ?_
      rintro e w1 ⟨rfl, rfl⟩
      go_wp2_with fail
      refine C2.out.mono ?_
      rintro e w1 ⟨rfl, rfl⟩
      go_wp2_with fail
      go_ret3
      exact ⟨tri_eq (a := 5) (b := 1) (c := 0) HX.out, rfl⟩
    · have hz : ¬ k ≥ 0 := hk0
      rw [if_neg hk0] at hx
      have HX := Lib.hid hx
      clear c1 c2 hx hk hp e1 e2 e3 hk0
      go_enter Tryz.func138, Tryz.ntmps138
      go_wp2_with fail
      refine C1.out.mono ?_
      rintro e w1 ⟨rfl, rfl⟩
      go_wp2_with fail
      refine C2.out.mono ?_
      rintro e w1 ⟨rfl, rfl⟩
      go_wp2_with fail
      go_ret3
      exact ⟨tri_eq (a := 0) (b := 0) (c := 21) HX.out, rfl⟩
  · rw [hp] at c1 hx
    rw [if_pos rfl] at hx
    have C1 := Lib.hid c1
    have HX := Lib.hid hx
    clear c1 c2 hx hk hp e1 e2 e3
    go_enter Tryz.func138, Tryz.ntmps138
    go_wp2_with fail
    refine C1.out.mono ?_
    rintro e w1 ⟨rfl, rfl⟩
    go_wp2_with fail
    go_ret3
    exact ⟨tri_eq (a := 5) (b := 2) (c := 0) HX.out, rfl⟩

/-- The kind of the token with which bytes begin, how many bytes it has, what is wrong. -/
def firstL (l : List UInt8) : Nat × Nat × Nat :=
  if l = [] then (0, 0, 0) else if letN (l.getD 0 0).toNat = true then wordL l else if digN (l.getD 0 0).toNat = true then numL l else if (l.getD 0 0).toNat = 34 then quotL l else signL l
theorem head_of (s : ByteArray) (h0 : 0 < s.size) : (s.data.toList.getD 0 0).toNat = (s[0]'h0).toNat := (gb_of s 0 h0).symm

set_option maxHeartbeats 1000000 in
theorem first_any (s : ByteArray) (hs : s.size ≤ 100000) (w : World) (hE : Errs w) : Calls Tryz.prog 119 #[.string s] w fun e w' => e = tri (firstL s.data.toList) ∧ Below w.heap.size w w' := by
  obtain ⟨x, hx⟩ : ∃ x, x = firstL s.data.toList := ⟨_, rfl⟩
  rw [← hx]
  unfold firstL at hx
  by_cases h0 : 0 < s.size
  · have hne : s.data.toList ≠ [] := by
      intro e
      have := len_list s
      rw [e] at this
      simp at this
      omega
    rw [if_neg hne, head_of s h0] at hx
    have hnt : s.toList ≠ [] := by rw [ByteArray.toList_eq]; exact hne
    have hnt2 : (s.toList == []) = false := by simpa using hnt
    have hnt3 : s.toList.isEmpty = false := by simpa using hnt
    have c1 := fun w => letter_any (s[0]'h0).toNat w
    cases h1 : letN (s[0]'h0).toNat
    · rw [h1] at c1 hx
      rw [if_neg (by decide)] at hx
      have c2 := fun w => digit_any (s[0]'h0).toNat w
      cases h2 : digN (s[0]'h0).toNat
      · rw [h2] at c2 hx
        rw [if_neg (by decide)] at hx
        by_cases h3 : (s[0]'h0).toNat = 34
        · rw [if_pos h3] at hx
          have q : (((s[0]'h0).toNat : Int) == 34) = true := by simp; omega
          have C1 := Lib.hid c1
          have C2 := Lib.hid c2
          have C3 := Lib.hid (quoted_any s hs h0 w)
          have HX := Lib.hid hx
          clear c1 c2 hx h1 h2 h3 hE hne
          go_enter Tryz.func119, Tryz.ntmps119
          go_wp2_with fail
          refine (C1.out _).mono ?_
          rintro e w1 ⟨rfl, rfl⟩
          go_wp2_with fail
          refine (C2.out _).mono ?_
          rintro e w1 ⟨rfl, rfl⟩
          go_wp2_with fail
          refine C3.out.mono ?_
          rintro e w1 ⟨he, hb⟩
          rw [← HX.out] at he
          unfold tri at he
          subst he
          have HB := Lib.hid hb
          clear hb
          go_wp2_with fail
          go_ret3
          exact ⟨rfl, HB.out⟩
        · rw [if_neg h3] at hx
          have q : (((s[0]'h0).toNat : Int) == 34) = false := by simp; omega
          have C1 := Lib.hid c1
          have C2 := Lib.hid c2
          have C3 := Lib.hid (sign_any s hs h0 w)
          have HX := Lib.hid hx
          clear c1 c2 hx h1 h2 h3 hE hne
          go_enter Tryz.func119, Tryz.ntmps119
          go_wp2_with fail
          refine (C1.out _).mono ?_
          rintro e w1 ⟨rfl, rfl⟩
          go_wp2_with fail
          refine (C2.out _).mono ?_
          rintro e w1 ⟨rfl, rfl⟩
          go_wp2_with fail
          refine C3.out.mono ?_
          rintro e w1 ⟨he, rfl⟩
          rw [← HX.out] at he
          unfold tri at he
          subst he
          go_wp2_with fail
          go_ret3
          exact ⟨rfl, Below.refl _ _⟩
      · rw [h2] at c2 hx
        rw [if_pos rfl] at hx
        have C1 := Lib.hid c1
        have C2 := Lib.hid c2
        have C3 := Lib.hid (number_any s hs w hE)
        have HX := Lib.hid hx
        clear c1 c2 hx h1 h2 hE hne
        go_enter Tryz.func119, Tryz.ntmps119
        go_wp2_with fail
        refine (C1.out _).mono ?_
        rintro e w1 ⟨rfl, rfl⟩
        go_wp2_with fail
        refine (C2.out _).mono ?_
        rintro e w1 ⟨rfl, rfl⟩
        go_wp2_with fail
        refine C3.out.mono ?_
        rintro e w1 ⟨he, hb⟩
        rw [← HX.out] at he
        unfold tri at he
        subst he
        have HB := Lib.hid hb
        clear hb
        go_wp2_with fail
        go_ret3
        exact ⟨rfl, HB.out⟩
    · rw [h1] at c1 hx
      rw [if_pos rfl] at hx
      have C1 := Lib.hid c1
      have C3 := Lib.hid (word_any s hs w)
      have HX := Lib.hid hx
      clear c1 hx h1 hE hne
      go_enter Tryz.func119, Tryz.ntmps119
      go_wp2_with fail
      refine (C1.out _).mono ?_
      rintro e w1 ⟨rfl, rfl⟩
      go_wp2_with fail
      refine C3.out.mono ?_
      rintro e w1 ⟨he, rfl⟩
      rw [← HX.out] at he
      unfold tri at he
      subst he
      go_wp2_with fail
      go_ret3
      exact ⟨rfl, Below.refl _ _⟩
  · have hl : s.data.toList = [] := List.eq_nil_of_length_eq_zero (by rw [len_list]; omega)
    rw [if_pos hl] at hx
    have hnt : s.toList = [] := by rw [ByteArray.toList_eq]; exact hl
    have HX := Lib.hid hx
    clear hl hx h0 hE
    go_enter Tryz.func119, Tryz.ntmps119
    go_wp2_with fail
    go_ret3
    exact ⟨tri_eq (a := 0) (b := 0) (c := 0) HX.out, Below.refl _ _⟩
end Go.Proofs.YtifkjngclkklfaaGreatDoor
/- The document's example of package runes holds. -/
namespace Go.Proofs.YtifkjngclkklfaaGreatDoor
open Go.RowKit

theorem badI_a : badI [97] = -1 := by
  refine badI_none ?_
  rw [bad_step (by simp) (by decide)]
  rw [show List.drop (dec [97]).2 ([97] : List UInt8) = [] by decide, bad_nil]
  rfl
theorem step_below {w w1 w2 : World} (h : Below w.heap.size w w1) (h' : Below w1.heap.size w1 w2) : Below w.heap.size w w2 := h.trans (h'.mono h.size)
end Go.Proofs.YtifkjngclkklfaaGreatDoor
/- Contracts: the next token. -/
namespace Go.Proofs.YtifkjngclkklfaaGreatDoor
open Go.RowKit

/-- Where the token begins that is read from a place on. -/
def atK (s : ByteArray) (k : Nat) : Nat := k + lLen (tl s k)
theorem lLen_le (l : List UInt8) : lLen l ≤ l.length := runM_le _ _ _ _
theorem atK_le (s : ByteArray) (k : Nat) (h : k ≤ s.size) : k ≤ atK s k ∧ atK s k ≤ s.size := by
  have := lLen_le (tl s k)
  rw [tl_len] at this
  unfold atK
  omega
/-- A token, as it lies in memory. -/
abbrev tokV (kind at_ : Int) (lead text : ByteArray) : Value := .agg #[.int .i64 kind, .int .i64 at_, .string lead, .string text]
def nextE (s : ByteArray) (k : Nat) : Ending :=
  if (firstL (tl s (atK s k))).2.2 = 0 then .returned (.tuple #[tokV (firstL (tl s (atK s k))).1 (atK s k) (s.extract k (atK s k)) (s.extract (atK s k) (atK s k + (firstL (tl s (atK s k))).2.1)), .int .i64 0])
  else .returned (.tuple #[tokV 0 (atK s k) ⟨#[]⟩ ⟨#[]⟩, .int .i64 (firstL (tl s (atK s k))).2.2])

set_option maxHeartbeats 2000000 in
theorem next_bad (s : ByteArray) (k : Nat) (hs : s.size ≤ 100000) (hk : k ≤ s.size) (w : World) (hE : Errs w) (he : (firstL (tl s (atK s k))).2.2 ≠ 0) :
    Calls Tryz.prog 91 #[.string s, .int .i64 k] w fun e w' => e = nextE s k ∧ Below w.heap.size w w' := by
  have c1 := fun w => llen_any (s.extract k s.size) (by rw [ByteArray.size_extract]; omega) w
  rw [ext_end] at c1
  obtain ⟨ha, hb⟩ := atK_le s k hk
  have e1 : atK s k = k + lLen (tl s k) := rfl
  have c2 := fun w hE => first_any (s.extract (atK s k) s.size) (by rw [ByteArray.size_extract]; omega) w hE
  rw [ext_end] at c2
  have HN : Hid (nextE s k = .returned (.tuple #[tokV 0 (atK s k) ⟨#[]⟩ ⟨#[]⟩, .int .i64 (firstL (tl s (atK s k))).2.2])) := by
    show _ = _
    unfold nextE
    rw [if_neg he]
  obtain ⟨f, hf⟩ : ∃ f, f = firstL (tl s (atK s k)) := ⟨_, rfl⟩
  rw [← hf] at c2 HN he
  obtain ⟨x, y, z⟩ := f
  obtain ⟨a, haa⟩ : ∃ a, a = atK s k := ⟨_, rfl⟩
  obtain ⟨m, hm⟩ : ∃ m, m = lLen (tl s k) := ⟨_, rfl⟩
  rw [← haa] at c2 HN ha hb e1
  rw [← hm] at c1 e1
  unfold tri at c2
  simp only at c2 HN he
  have hkz : (k : Int) ≤ (s.size : Int) := by omega
  have haz : (a : Int) ≤ (s.size : Int) := by omega
  have EA : (k : Int) + (m : Int) = (a : Int) := by omega
  have hz : ((z : Int) != 0) = true := by simp; omega
  have C1 := Lib.hid c1
  have C2 := Lib.hid c2
  have HE := Lib.hid hE
  clear c1 c2 hf haa hm e1 hE he
  go_enter Tryz.func91, Tryz.ntmps91
  go_wp2_with fail
  refine (C1.out _).mono ?_
  rintro e w1 ⟨rfl, hb1⟩
  have R0 := Lib.hid (RowB.new w 111 #[.int .i64 0, .int .i64 0, .string ⟨#[]⟩, .string ⟨#[]⟩])
  have R1 := Lib.hid (R0.out.below hb1 (by simp))
  have HB0 := Lib.hid ((Below.refl w.heap.size w).alloc (Nat.le_refl _) (.cells #[.int .i64 0, .int .i64 0, .string ⟨#[]⟩, .string ⟨#[]⟩] 111))
  have HB1 := Lib.hid (HB0.out.trans (hb1.mono HB0.out.size))
  clear hb1
  go_wp2_with fail
  refine (C2.out _ (HE.out.below HB1.out)).mono ?_
  rintro e w2 ⟨rfl, hb2⟩
  have R2 := Lib.hid (R1.out.below hb2 R1.out.lt)
  have HB2 := Lib.hid (step_below HB1.out hb2)
  obtain ⟨q0, q1, q2, q3⟩ := (⟨R2.out.cell 0, R2.out.cell 1, R2.out.cell 2, R2.out.cell 3⟩ : w2.cell? ⟨w.heap.size, 0, none⟩ = some (.int .i64 0) ∧ w2.cell? ⟨w.heap.size, 1, none⟩ = some (.int .i64 0) ∧ w2.cell? ⟨w.heap.size, 2, none⟩ = some (.string ⟨#[]⟩) ∧ w2.cell? ⟨w.heap.size, 3, none⟩ = some (.string ⟨#[]⟩))
  have hfz := R2.out.thaw
  have hlt := R2.out.lt
  clear hb2
  go_wp2_with fail
  refine bodyPost_ret (v := .tuple #[tokV 0 a ⟨#[]⟩ ⟨#[]⟩, .int .i64 z]) (by simp [results, go_sem, *]) rfl ⟨HN.out.symm, ?_⟩
  exact ((((HB2.out.setCell (p := ⟨w.heap.size, 0, none⟩) (Nat.le_refl _) _).setCell (p := ⟨w.heap.size, 1, none⟩) (Nat.le_refl _) _).setCell (p := ⟨w.heap.size, 2, none⟩) (Nat.le_refl _) _).setCell (p := ⟨w.heap.size, 3, none⟩) (Nat.le_refl _) _)

theorem first_le (l : List UInt8) : (firstL l).2.1 ≤ l.length := by
  unfold firstL
  by_cases h : l = []
  · rw [if_pos h]; simp
  have h0 := len_pos h
  rw [if_neg h]
  have hw := wLen_le l
  split
  · unfold wordL
    split
    · exact hw
    · split
      · simp
      · exact hw
  · split
    · unfold numL
      split
      · exact hw
      · simp
    · split
      · unfold quotL
        split
        · show qLong l ≤ _
          unfold qLong
          omega
        · simp
      · unfold signL
        split
        · rename_i hp
          have : [61, 61].length ≤ l.length := (List.isPrefixOf_iff_prefix.1 hp).length_le
          exact this
        · split
          · exact h0
          · simp

set_option maxHeartbeats 4000000 in
theorem next_ok (s : ByteArray) (k : Nat) (hs : s.size ≤ 100000) (hk : k ≤ s.size) (w : World) (hE : Errs w) (he : (firstL (tl s (atK s k))).2.2 = 0) :
    Calls Tryz.prog 91 #[.string s, .int .i64 k] w fun e w' => e = nextE s k ∧ Below w.heap.size w w' := by
  have c1 := fun w => llen_any (s.extract k s.size) (by rw [ByteArray.size_extract]; omega) w
  rw [ext_end] at c1
  obtain ⟨ha, hb⟩ := atK_le s k hk
  have e1 : atK s k = k + lLen (tl s k) := rfl
  have c2 := fun w hE => first_any (s.extract (atK s k) s.size) (by rw [ByteArray.size_extract]; omega) w hE
  rw [ext_end] at c2
  have hfl := first_le (tl s (atK s k))
  rw [tl_len] at hfl
  have HN : Hid (nextE s k = .returned (.tuple #[tokV (firstL (tl s (atK s k))).1 (atK s k) (s.extract k (atK s k)) (s.extract (atK s k) (atK s k + (firstL (tl s (atK s k))).2.1)), .int .i64 0])) := by
    show _ = _
    unfold nextE
    rw [if_pos he]
  obtain ⟨f, hf⟩ : ∃ f, f = firstL (tl s (atK s k)) := ⟨_, rfl⟩
  rw [← hf] at c2 HN he hfl
  obtain ⟨x, y, z⟩ := f
  obtain ⟨a, haa⟩ : ∃ a, a = atK s k := ⟨_, rfl⟩
  obtain ⟨m, hm⟩ : ∃ m, m = lLen (tl s k) := ⟨_, rfl⟩
  rw [← haa] at c2 HN ha hb e1 hfl
  rw [← hm] at c1 e1
  unfold tri at c2
  simp only at c2 HN he hfl
  subst he
  obtain ⟨b, hbb⟩ : ∃ b, b = a + y := ⟨_, rfl⟩
  rw [← hbb] at HN
  have hkz : (k : Int) ≤ (s.size : Int) := by omega
  have haz : (a : Int) ≤ (s.size : Int) := by omega
  have hkaz : (k : Int) ≤ (a : Int) := by omega
  have habz : (a : Int) ≤ (b : Int) := by omega
  have hbz : (b : Int) ≤ (s.size : Int) := by omega
  have EA : (k : Int) + (m : Int) = (a : Int) := by omega
  have EB : (a : Int) + (y : Int) = (b : Int) := by omega
  have C1 := Lib.hid c1
  have C2 := Lib.hid c2
  have HE := Lib.hid hE
  clear c1 c2 hf haa hm e1 hE hfl hbb
  go_enter Tryz.func91, Tryz.ntmps91
  go_wp2_with fail
  refine (C1.out _).mono ?_
  rintro e w1 ⟨rfl, hb1⟩
  have R0 := Lib.hid (RowB.new w 111 #[.int .i64 0, .int .i64 0, .string ⟨#[]⟩, .string ⟨#[]⟩])
  have R1 := Lib.hid (R0.out.below hb1 (by simp))
  have HB0 := Lib.hid ((Below.refl w.heap.size w).alloc (Nat.le_refl _) (.cells #[.int .i64 0, .int .i64 0, .string ⟨#[]⟩, .string ⟨#[]⟩] 111))
  have HB1 := Lib.hid (HB0.out.trans (hb1.mono HB0.out.size))
  clear hb1
  go_wp2_with fail
  refine (C2.out _ (HE.out.below HB1.out)).mono ?_
  rintro e w2 ⟨rfl, hb2⟩
  have R2 := Lib.hid (R1.out.below hb2 R1.out.lt)
  have HB2 := Lib.hid (step_below HB1.out hb2)
  obtain ⟨q0, q1, q2, q3⟩ := (⟨R2.out.cell 0, R2.out.cell 1, R2.out.cell 2, R2.out.cell 3⟩ : w2.cell? ⟨w.heap.size, 0, none⟩ = some (.int .i64 0) ∧ w2.cell? ⟨w.heap.size, 1, none⟩ = some (.int .i64 0) ∧ w2.cell? ⟨w.heap.size, 2, none⟩ = some (.string ⟨#[]⟩) ∧ w2.cell? ⟨w.heap.size, 3, none⟩ = some (.string ⟨#[]⟩))
  have hfz := R2.out.thaw
  have hlt := R2.out.lt
  have WB : IntKind.i64.wrap (b : Int) = (b : Int) := IntWalk.i64_in _ (by omega)
  clear hb2
  go_wp2_with fail
  go_region
  all_goals
    go_wp2_with fail
    refine bodyPost_ret (v := .tuple #[tokV x a (s.extract k a) (s.extract a b), .int .i64 0]) (by simp [results, go_sem, *]) rfl ⟨HN.out.symm, ?_⟩
    have HBd := Lib.hid (HB2.out.trans ((Below.refl w2.heap.size w2).drew.mono HB2.out.size))
    exact ((((HBd.out.setCell (p := ⟨w.heap.size, 0, none⟩) (Nat.le_refl _) _).setCell (p := ⟨w.heap.size, 1, none⟩) (Nat.le_refl _) _).setCell (p := ⟨w.heap.size, 2, none⟩) (Nat.le_refl _) _).setCell (p := ⟨w.heap.size, 3, none⟩) (Nat.le_refl _) _)
theorem next_any (s : ByteArray) (k : Nat) (hs : s.size ≤ 100000) (hk : k ≤ s.size) (w : World) (hE : Errs w) :
    Calls Tryz.prog 91 #[.string s, .int .i64 k] w fun e w' => e = nextE s k ∧ Below w.heap.size w w' := by
  by_cases he : (firstL (tl s (atK s k))).2.2 = 0
  · exact next_ok s k hs hk w hE he
  · exact next_bad s k hs hk w hE he
end Go.Proofs.YtifkjngclkklfaaGreatDoor
/- What every law's row asks behind its walk: it returned true, and old memory stays as it was: so each argument reads as it did. -/
namespace Go.Proofs.YtifkjngclkklfaaGreatDoor
open Go.ChangeShapes Go.WideShapes Go.ChangeAt Go.RowKit

section
variable {H : Type} {enc : TypeId × Value → H} {P : Program}
/-- Arguments of types that can be read stay as they read, where no old block has turned. -/
theorem args_stay (hl : laidOutB P = true) {W W' : World} (hb : Below W.heap.size W W') : ∀ (ts : List TypeId) (vs : List Value) (ds : List (DataW H)) (ps : List MemPlace),
    (∀ t, t ∈ ts → P.readableRec t = true ∧ t < P.types.size) → (∀ x ∈ ps, x.block < W.heap.size) →
    DataW.TrodAll enc P W 0 (fun _ => true) true ts vs ds ps → DataW.TrodAll enc P W' 0 (fun b => decide (b < W.heap.size)) true ts vs ds ps
  | [], vs, ds, ps, _, _, h => by
    obtain ⟨rfl, rfl, rfl⟩ := trodAll_nil h
    exact trodAll_mk0
  | t :: ts, vs, ds, ps, hts, hlt, h => by
    obtain ⟨v, vs', d, ds', p, q, rfl, rfl, rfl, h1, h2⟩ := trodAll_cons h
    have hr := hts t (List.mem_cons_self)
    exact trodAll_cons_mk (Below.trod hl hr.1 hr.2 h1 hb fun x hx => hlt x (List.mem_append_left _ hx))
      (args_stay hl hb ts vs' ds' q (fun u hu => hts u (List.mem_cons_of_mem _ hu)) (fun x hx => hlt x (List.mem_append_right _ hx)) h2)
/-- The row's word on a law that returned true. -/
theorem law_post (hl : laidOutB P = true) {f : Func} {s : ChangeSpec} {tb : TypeId} {W W' : World} {args : Array Value} {ds gs : List (DataW H)} {before : List MemPlace} (hv : s.vars = []) (hf : f.resultTypes = #[tb])
    (htb : P.underlying tb = some .bool) (hts : ∀ t, t ∈ f.params.toList → P.readableRec t = true ∧ t < P.types.size)
    (hW : DataW.Whole enc P f.params.toList s.vars false W args.toList ds gs before)
    (hfn : (s.fn H (ds ++ gs)).results = [.lit (.bool true)] ∧ (s.fn H (ds ++ gs)).args = ds ∧ (s.fn H (ds ++ gs)).vars = []) (hb : Below W.heap.size W W') :
    s.post enc P f false true false false W args (.bool true) W' := by
  have hlt : ∀ p ∈ before, p.block < W.heap.size := fun p hp => hW.lt p hp
  have hW0 := hW
  obtain ⟨p, q, hA, hV, rfl, hz, hn⟩ := hW
  refine ⟨ds, gs, p ++ q, [], p, [], hW0, ?_, ?_, ?_, hb.frame _, fun h => by cases h⟩
  · rw [hfn.1, hf]
    exact trodAll_cons_mk (shut_bool htb _) trodAll_mk0
  · rw [hfn.2.1]
    exact args_stay hl hb _ _ _ _ hts (fun x hx => hlt x (List.mem_append_left _ hx)) hA
  · rw [hfn.2.2, hv]
    exact rfl
end
end Go.Proofs.YtifkjngclkklfaaGreatDoor
