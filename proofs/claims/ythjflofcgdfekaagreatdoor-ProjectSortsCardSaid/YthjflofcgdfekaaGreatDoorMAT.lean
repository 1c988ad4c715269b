import Derived.Shelf.Small.Strs
import Derived.Shelf.Strings.Prefix
import Derived.Shelf.Strconv.ErrVarParseInt
import Derived.Shelf.LaysC
import Derived.Test.YthjflofcgdfekaaGreatDoorBase
import Derived.Test.YthjflofcgdfekaaGreatDoorMAS
import Derived.WideLaws
import Derived.Lib.ConvBytes
import Derived.Test.YthjflofcgdfekaaGreatDoorMAR
import Derived.Deep.LoopGhost
import Derived.Shelf.Small.Utf8
import Derived.Shelf.Unicode.DecodeAny
namespace Go.Proofs.YthjflofcgdfekaaGreatDoor
open Go.Shelf Go.RowKit Go.Proofs
def sh_lays137_ren : Go.Shelf.Ren := ⟨fun | 137 => 246 | 217 => 264 | 266 => 278 | n => n, fun | 9 => 9 | 5 => 5 | 3 => 3 | n => n, fun | n => n⟩
theorem sh_lays137 : Go.Proofs.Lays.n137 Tryz.prog sh_lays137_ren := {
  mixed := by kernel_rfl
  f137 := Tryz.func246.trans (congrArg some (by kernel_rfl))
  f217 := Tryz.func264.trans (congrArg some (by kernel_rfl))
  f266 := Tryz.func278.trans (congrArg some (by kernel_rfl))
  t3 := Tryz.underlying3
  a3 := Tryz.isAgg3
  z3 := Tryz.sizeOf3
  v3 := Tryz.zeroValue3
  t5 := Tryz.underlying5
  a5 := Tryz.isAgg5
  z5 := Tryz.sizeOf5
  v5 := Tryz.zeroValue5
  t9 := Tryz.underlying9
  a9 := Tryz.isAgg9
  z9 := Tryz.sizeOf9
  v9 := Tryz.zeroValue9 }
theorem sh_strings_IndexByte (s : ByteArray) (c : Int) (w : World) :
    Calls Tryz.prog 246 #[.string s, .int .u8 c] w fun e w' => e = .returned (.int .i64 (Lib.indexByte s.data.toList c.toNat.toUInt8)) ∧ w' = w := Any.strings_IndexByte sh_lays137 s c w
def sh_lays99_ren : Go.Shelf.Ren := ⟨fun | 99 => 245 | 206 => 263 | n => n, fun | 9 => 9 | 4 => 4 | 3 => 3 | n => n, fun | n => n⟩
theorem sh_lays99 : Go.Proofs.Lays.n99 Tryz.prog sh_lays99_ren := {
  mixed := by kernel_rfl
  f99 := Tryz.func245.trans (congrArg some (by kernel_rfl))
  f206 := Tryz.func263.trans (congrArg some (by kernel_rfl))
  t3 := Tryz.underlying3
  a3 := Tryz.isAgg3
  z3 := Tryz.sizeOf3
  v3 := Tryz.zeroValue3
  t4 := Tryz.underlying4
  a4 := Tryz.isAgg4
  z4 := Tryz.sizeOf4
  v4 := Tryz.zeroValue4
  t9 := Tryz.underlying9
  a9 := Tryz.isAgg9
  z9 := Tryz.sizeOf9
  v9 := Tryz.zeroValue9 }
theorem sh_strings_HasPrefix (s p : ByteArray) (w : World) :
    Calls Tryz.prog 245 #[.string s, .string p] w fun e w' => e = .returned (.bool (Lib.hasPrefix s.data.toList p.data.toList)) ∧ w' = w := Any.strings_HasPrefix sh_lays99 s p w
def sh_laysC174_ren : Go.Shelf.Ren := ⟨fun | 174 => 242 | 247 => 260 | 245 => 261 | 287 => 273 | 279 => 274 | 280 => 275 | 281 => 276 | 282 => 277 | 321 => 282 | 322 => 283 | 316 => 284 | 171 => 286 | 205 => 285 | 243 => 289 | 246 => 292 | 283 => 295 | 284 => 296 | 285 => 297 | 286 => 298 | 129 => 198 | 317 => 301 | 318 => 302 | 319 => 303 | 320 => 304 | 337 => 305 | 338 => 306 | n => n, fun | 9 => 9 | 3 => 3 | 2 => 2 | 75 => 303 | 85 => 304 | 4 => 4 | 167 => 326 | 5 => 5 | 53 => 263 | 175 => 327 | 46 => 241 | 168 => 329 | 37 => 321 | 0 => 0 | 210 => 335 | 21 => 21 | 127 => 338 | 145 => 341 | 143 => 339 | 171 => 343 | 173 => 345 | 212 => 348 | 51 => 278 | 20 => 20 | 213 => 349 | 232 => 350 | 233 => 351 | 80 => 352 | n => n, fun | 15 => 3 | 16 => 4 | 17 => 5 | 18 => 6 | 19 => 7 | n => n⟩
theorem sh_laysC174 : Go.Proofs.LaysC.n174 Tryz.prog sh_laysC174_ren := {
  mixed := by kernel_rfl
  f129 := Tryz.func198.trans (congrArg some (by kernel_rfl))
  f171 := Tryz.func286.trans (congrArg some (by kernel_rfl))
  f174 := Tryz.func242.trans (congrArg some (by kernel_rfl))
  f205 := Tryz.func285.trans (congrArg some (by kernel_rfl))
  f243 := Tryz.func289.trans (congrArg some (by kernel_rfl))
  f245 := Tryz.func261.trans (congrArg some (by kernel_rfl))
  f246 := Tryz.func292.trans (congrArg some (by kernel_rfl))
  f247 := Tryz.func260.trans (congrArg some (by kernel_rfl))
  f279 := Tryz.func274.trans (congrArg some (by kernel_rfl))
  f280 := Tryz.func275.trans (congrArg some (by kernel_rfl))
  f281 := Tryz.func276.trans (congrArg some (by kernel_rfl))
  f282 := Tryz.func277.trans (congrArg some (by kernel_rfl))
  f283 := Tryz.func295.trans (congrArg some (by kernel_rfl))
  f284 := Tryz.func296.trans (congrArg some (by kernel_rfl))
  f285 := Tryz.func297.trans (congrArg some (by kernel_rfl))
  f286 := Tryz.func298.trans (congrArg some (by kernel_rfl))
  f287 := Tryz.func273.trans (congrArg some (by kernel_rfl))
  f316 := Tryz.func284.trans (congrArg some (by kernel_rfl))
  f317 := Tryz.func301.trans (congrArg some (by kernel_rfl))
  f318 := Tryz.func302.trans (congrArg some (by kernel_rfl))
  f319 := Tryz.func303.trans (congrArg some (by kernel_rfl))
  f320 := Tryz.func304.trans (congrArg some (by kernel_rfl))
  f321 := Tryz.func282.trans (congrArg some (by kernel_rfl))
  f322 := Tryz.func283.trans (congrArg some (by kernel_rfl))
  f337 := Tryz.func305.trans (congrArg some (by kernel_rfl))
  f338 := Tryz.func306.trans (congrArg some (by kernel_rfl))
  t0 := Tryz.underlying0
  a0 := Tryz.isAgg0
  z0 := Tryz.sizeOf0
  v0 := Tryz.zeroValue0
  t2 := Tryz.underlying2
  a2 := Tryz.isAgg2
  z2 := Tryz.sizeOf2
  v2 := Tryz.zeroValue2
  t3 := Tryz.underlying3
  a3 := Tryz.isAgg3
  z3 := Tryz.sizeOf3
  v3 := Tryz.zeroValue3
  t4 := Tryz.underlying4
  a4 := Tryz.isAgg4
  z4 := Tryz.sizeOf4
  v4 := Tryz.zeroValue4
  t5 := Tryz.underlying5
  a5 := Tryz.isAgg5
  z5 := Tryz.sizeOf5
  v5 := Tryz.zeroValue5
  t9 := Tryz.underlying9
  a9 := Tryz.isAgg9
  z9 := Tryz.sizeOf9
  v9 := Tryz.zeroValue9
  t20 := Tryz.underlying20
  a20 := Tryz.isAgg20
  z20 := Tryz.sizeOf20
  v20 := Tryz.zeroValue20
  t21 := Tryz.underlying21
  a21 := Tryz.isAgg21
  z21 := Tryz.sizeOf21
  v21 := Tryz.zeroValue21
  t37 := Tryz.underlying321
  a37 := Tryz.isAgg321
  z37 := Tryz.sizeOf321
  v37 := Tryz.zeroValue321
  t46 := Tryz.underlying241
  a46 := Tryz.isAgg241
  z46 := Tryz.sizeOf241
  v46 := Tryz.zeroValue241
  t51 := Tryz.underlying278
  a51 := Tryz.isAgg278
  z51 := Tryz.sizeOf278
  v51 := Tryz.zeroValue278
  t53 := Tryz.underlying263
  a53 := Tryz.isAgg263
  z53 := Tryz.sizeOf263
  v53 := Tryz.zeroValue263
  t75 := Tryz.underlying303
  a75 := Tryz.isAgg303
  z75 := Tryz.sizeOf303
  v75 := Tryz.zeroValue303
  t85 := Tryz.underlying304
  a85 := Tryz.isAgg304
  z85 := Tryz.sizeOf304
  v85 := Tryz.zeroValue304
  t127 := Tryz.underlying338
  a127 := Tryz.isAgg338
  z127 := Tryz.sizeOf338
  v127 := Tryz.zeroValue338
  t143 := Tryz.underlying339
  a143 := Tryz.isAgg339
  z143 := Tryz.sizeOf339
  v143 := Tryz.zeroValue339
  t145 := Tryz.underlying341
  a145 := Tryz.isAgg341
  z145 := Tryz.sizeOf341
  v145 := Tryz.zeroValue341
  t167 := Tryz.underlying326
  a167 := Tryz.isAgg326
  z167 := Tryz.sizeOf326
  v167 := Tryz.zeroValue326
  t168 := Tryz.underlying329
  a168 := Tryz.isAgg329
  z168 := Tryz.sizeOf329
  v168 := Tryz.zeroValue329
  t171 := Tryz.underlying343
  a171 := Tryz.isAgg343
  z171 := Tryz.sizeOf343
  v171 := Tryz.zeroValue343
  t173 := Tryz.underlying345
  a173 := Tryz.isAgg345
  z173 := Tryz.sizeOf345
  v173 := Tryz.zeroValue345
  t175 := Tryz.underlying327
  a175 := Tryz.isAgg327
  z175 := Tryz.sizeOf327
  v175 := Tryz.zeroValue327
  t210 := Tryz.underlying335
  a210 := Tryz.isAgg335
  z210 := Tryz.sizeOf335
  v210 := Tryz.zeroValue335
  t212 := Tryz.underlying348
  a212 := Tryz.isAgg348
  z212 := Tryz.sizeOf348
  v212 := Tryz.zeroValue348
  t213 := Tryz.underlying349
  a213 := Tryz.isAgg349
  z213 := Tryz.sizeOf349
  t232 := Tryz.underlying350
  a232 := Tryz.isAgg350
  z232 := Tryz.sizeOf350
  v232 := Tryz.zeroValue350
  t233 := Tryz.underlying351
  a233 := Tryz.isAgg351
  z233 := Tryz.sizeOf351
  v233 := Tryz.zeroValue351
  g15 := by kernel_rfl
  g16 := by kernel_rfl
  g17 := by kernel_rfl
  g18 := by kernel_rfl
  g19 := by kernel_rfl
  t80 := Tryz.underlying352
  a80 := Tryz.isAgg352
  z80 := Tryz.sizeOf352
  v80 := Tryz.zeroValue352
  i0 := by kernel_rfl
  i2 := by kernel_rfl
  i3 := by kernel_rfl
  i4 := by kernel_rfl
  i5 := by kernel_rfl
  i9 := by kernel_rfl
  i20 := by kernel_rfl
  i21 := by kernel_rfl
  i37 := by kernel_rfl
  i46 := by kernel_rfl
  i51 := by kernel_rfl
  i53 := by kernel_rfl
  i75 := by kernel_rfl
  i80 := by kernel_rfl
  i85 := by kernel_rfl
  i127 := by kernel_rfl
  i143 := by kernel_rfl
  i145 := by kernel_rfl
  i167 := by kernel_rfl
  i168 := by kernel_rfl
  i171 := by kernel_rfl
  i173 := by kernel_rfl
  i175 := by kernel_rfl
  i210 := by kernel_rfl
  i212 := by kernel_rfl
  i232 := by kernel_rfl
  i233 := by kernel_rfl
  m15 := by kernel_rfl
  m16 := by kernel_rfl
  m17 := by kernel_rfl
  m18 := by kernel_rfl
  m19 := by kernel_rfl
  c0 := by kernel_rfl
  c2 := by kernel_rfl
  c3 := by kernel_rfl
  c4 := by kernel_rfl
  c5 := by kernel_rfl
  c9 := by kernel_rfl
  c20 := by kernel_rfl
  c21 := by kernel_rfl
  c37 := by kernel_rfl
  c46 := by kernel_rfl
  c51 := by kernel_rfl
  c53 := by kernel_rfl
  c75 := by kernel_rfl
  c80 := by kernel_rfl
  c85 := by kernel_rfl
  c127 := by kernel_rfl
  c143 := by kernel_rfl
  c145 := by kernel_rfl
  c167 := by kernel_rfl
  c168 := by kernel_rfl
  c171 := by kernel_rfl
  c173 := by kernel_rfl
  c175 := by kernel_rfl
  c210 := by kernel_rfl
  c212 := by kernel_rfl
  c213 := by kernel_rfl
  c232 := by kernel_rfl
  c233 := by kernel_rfl }
theorem sh_strconv_ParseInt_10_at64_ok (s : ByteArray) (hmax : s.size ≤ 9223372036854775806) (v : Int) (h : Lib.parseIntB 64 s.data.toList = .ok v) (w : World) :
    Calls Tryz.prog 242 #[.string s, .int .i64 10, .int .i64 64] w fun e w' => e = .returned (.tuple #[.int .i64 v, .nilIface]) ∧ (w' = w ∨ ∃ t, w' = Lib.bytesWorld w 5 t) := Any.strconv_ParseInt_10_at64_ok sh_laysC174 s hmax v h w
theorem sh_strconv_ParseInt_10_at64_range (s : ByteArray) (hlim : s.size ≤ 281474976710656) (h : Lib.parseIntB 64 s.data.toList = .range) (ev : Value) (w : World) (hv : w.cell? ⟨4, 0, none⟩ = some ev) (hev : ev = .nilIface ∨ ∃ te pe, ev = .iface te pe) :
    Calls Tryz.prog 242 #[.string s, .int .i64 10, .int .i64 64] w fun e w' => ∃ N, e = .returned (.tuple #[.int .i64 (Lib.intSat 64 s.data.toList), .iface 329 (.pointer (some ⟨N, 0, none⟩))]) ∧ w.heap.size ≤ N ∧ w'.heap[N]? = some (.cells #[.string ⟨#[80, 97, 114, 115, 101, 73, 110, 116]⟩, .string s, ev] 335 (0, 0)) ∧ Below w.heap.size w w' := Any.strconv_ParseInt_10_at64_range sh_laysC174 s hlim h ev w hv hev
end Go.Proofs.YthjflofcgdfekaaGreatDoor
namespace Go.Proofs.YthjflofcgdfekaaGreatDoor
open Go.RowKit
def keys : List (List UInt8) := [[100, 101, 102], [100, 121, 110], [101, 108, 115, 101], [102, 110], [105, 102], [105, 110, 112, 117, 116], [105, 110, 116], [108, 101, 116], [112, 114, 105, 110, 116], [114, 101, 116, 117, 114, 110], [115, 116, 114], [117, 115, 101], [119, 104, 105, 108, 101]]
def keyL (l : List UInt8) : Bool := keys.contains l
set_option maxHeartbeats 2000000 in
theorem key_any (s : ByteArray) (w : World) : Calls Tryz.prog 117 #[.string s] w fun e w' => e = .returned (.bool (keyL s.data.toList)) ∧ w = w' := by
  rw [← ByteArray.toList_eq]
  go_enter Tryz.func117, Tryz.ntmps117
  go_wp2
  all_goals
    go_ret
    exact ⟨rb (by simp_all [keyL, keys]), rfl⟩
def Errs (w : World) : Prop := (∃ t p, w.cell? ⟨3, 0, none⟩ = some (.iface t p)) ∧ (∃ t p, w.cell? ⟨4, 0, none⟩ = some (.iface t p))
theorem Errs.below {w w' : World} (h : Errs w) (hb : Below w.heap.size w w') : Errs w' := by
  obtain ⟨⟨t, p, h1⟩, ⟨u, q, h2⟩⟩ := h
  exact ⟨⟨t, p, (hb.cell (World.block_lt_of_cell? _ _ h1)).trans h1⟩, ⟨u, q, (hb.cell (World.block_lt_of_cell? _ _ h2)).trans h2⟩⟩
def numOk (l : List UInt8) : Bool := match Lib.parseIntB 64 l with
  | .ok _ => true
  | _ => false
def Parsed (b : Bool) (w : World) (e : Ending) (w' : World) : Prop :=
  (∃ v, (b = true ∧ e = .returned (.tuple #[.int .i64 v, .nilIface])) ∨ (b = false ∧ ∃ N, e = .returned (.tuple #[.int .i64 v, .iface 329 (.pointer (some ⟨N, 0, none⟩))]))) ∧ Below w.heap.size w w'
theorem bytesWorld_below (w : World) (s : ByteArray) : Below w.heap.size w (Lib.bytesWorld w 5 s) :=
  ⟨rfl, rfl, rfl, by rw [Lib.bytesWorld_size]; omega, fun k hk => Lib.bytesWorld_at_old w 5 s k hk⟩
theorem parse_any (s : ByteArray) (hs : s.size ≤ 100000) (w : World) (he : Errs w) : Calls Tryz.prog 242 #[.string s, .int .i64 10, .int .i64 64] w (Parsed (numOk s.data.toList) w) := by
  obtain ⟨⟨t, p, h1⟩, ⟨u, q, h2⟩⟩ := he
  unfold numOk
  cases h : Lib.parseIntB 64 s.data.toList with
  | ok v =>
    refine (sh_strconv_ParseInt_10_at64_ok s (by omega) v h w).mono ?_
    rintro e w' ⟨he, hw⟩
    refine ⟨⟨v, .inl ⟨rfl, he⟩⟩, ?_⟩
    rcases hw with rfl | ⟨t, rfl⟩
    · exact Below.refl _ _
    · exact bytesWorld_below w t
  | range =>
    refine (sh_strconv_ParseInt_10_at64_range s (by omega) h _ w h2 (.inr ⟨_, _, rfl⟩)).mono ?_
    rintro e w' ⟨N, he, _, _, hb⟩
    exact ⟨⟨_, .inr ⟨rfl, N, he⟩⟩, hb⟩
  | _ =>
    refine (Any.strconv_ParseInt_10_at64_syntax sh_laysC174 s (by omega) h _ w h1 (.inr ⟨_, _, rfl⟩)).mono ?_
    rintro e w' ⟨N, he, _, _, hb⟩
    exact ⟨⟨_, .inr ⟨rfl, N, he⟩⟩, hb⟩
def tri (x : Nat × Nat × Nat) : Ending := .returned (.tuple #[.int .i64 x.1, .int .i64 x.2.1, .int .i64 x.2.2])
def wordL (l : List UInt8) : Nat × Nat × Nat := if keyL (l.take (wLen l)) = true then (2, wLen l, 0) else if wLen l > 40 then (0, 0, 26) else (1, wLen l, 0)
def numL (l : List UInt8) : Nat × Nat × Nat := if numOk (l.take (wLen l)) = true then (3, wLen l, 0) else (0, 0, 23)
def qLong (l : List UInt8) : Nat := min (1 + qLen (l.drop 1) + 1) l.length
def quotL (l : List UInt8) : Nat × Nat × Nat := if (unq (l.take (qLong l))).isSome = true then (4, qLong l, 0) else (0, 0, 22)
def signs : List UInt8 := [40, 41, 123, 125, 44, 59, 58, 46, 61, 43, 45, 42, 60]
def signL (l : List UInt8) : Nat × Nat × Nat := if Lib.hasPrefix l [61, 61] = true then (5, 2, 0) else if 0 ≤ Lib.indexByte signs (l.getD 0 0) then (5, 1, 0) else (0, 0, 21)
theorem ext_pre' (s : ByteArray) (n : Nat) : (s.extract 0 n).data.toList = s.data.toList.take n := by
  rw [ByteArray.data_extract, Array.toList_extract, List.extract_eq_take_drop, List.drop_zero, Nat.sub_zero]
theorem wLen_le (l : List UInt8) : wLen l ≤ l.length := runM_le _ _ _ _
theorem tri_eq {x : Nat × Nat × Nat} {a b c : Nat} (h : x = (a, b, c)) : Ending.returned (.tuple #[.int .i64 (a : Int), .int .i64 (b : Int), .int .i64 (c : Int)]) = tri x := by rw [h]; rfl
set_option maxHeartbeats 1000000 in
theorem word_any (s : ByteArray) (hs : s.size ≤ 100000) (w : World) : Calls Tryz.prog 215 #[.string s] w fun e w' => e = tri (wordL s.data.toList) ∧ w = w' := by
  have c1 := wlen_any s hs w
  have hle := wLen_le s.data.toList
  rw [len_list] at hle
  have c2 := key_any (s.extract 0 (wLen s.data.toList)) w
  rw [ext_pre'] at c2
  obtain ⟨x, hx⟩ : ∃ x, x = wordL s.data.toList := ⟨_, rfl⟩
  rw [← hx]
  unfold wordL at hx
  obtain ⟨n, hn⟩ : ∃ n, n = wLen s.data.toList := ⟨_, rfl⟩
  rw [← hn] at c1 hle c2 hx
  have hnz : (n : Int) ≤ (s.size : Int) := by omega
  cases hk : keyL (s.data.toList.take n)
  · rw [hk] at c2 hx
    rw [if_neg (by decide)] at hx
    have C1 := Lib.hid c1
    have C2 := Lib.hid c2
    by_cases h40 : n > 40
    · have hz : (n : Int) > 40 := by omega
      rw [if_pos h40] at hx
      have HX := Lib.hid hx
      clear c1 c2 hx hn hk
      go_enter Tryz.func215, Tryz.ntmps215
      go_wp2_with fail
      refine C1.out.mono ?_
      rintro e w1 ⟨rfl, rfl⟩
      go_wp2_with fail
      refine C2.out.mono ?_
      rintro e w1 ⟨rfl, rfl⟩
      go_wp2_with fail
      go_ret3
      exact ⟨tri_eq (a := 0) (b := 0) (c := 26) HX.out, rfl⟩
    · have hz : ¬ (n : Int) > 40 := by omega
      rw [if_neg h40] at hx
      have HX := Lib.hid hx
      clear c1 c2 hx hn hk
      go_enter Tryz.func215, Tryz.ntmps215
      go_wp2_with fail
      refine C1.out.mono ?_
      rintro e w1 ⟨rfl, rfl⟩
      go_wp2_with fail
      refine C2.out.mono ?_
      rintro e w1 ⟨rfl, rfl⟩
      go_wp2_with fail
      go_ret3
      exact ⟨tri_eq (a := 1) (b := n) (c := 0) HX.out, rfl⟩
  · rw [hk] at c2 hx
    rw [if_pos rfl] at hx
    have C1 := Lib.hid c1
    have C2 := Lib.hid c2
    have HX := Lib.hid hx
    clear c1 c2 hx hn hk
    go_enter Tryz.func215, Tryz.ntmps215
    go_wp2_with fail
    refine C1.out.mono ?_
    rintro e w1 ⟨rfl, rfl⟩
    go_wp2_with fail
    refine C2.out.mono ?_
    rintro e w1 ⟨rfl, rfl⟩
    go_wp2_with fail
    go_ret3
    exact ⟨tri_eq (a := 2) (b := n) (c := 0) HX.out, rfl⟩
set_option maxHeartbeats 1000000 in
theorem number_any (s : ByteArray) (hs : s.size ≤ 100000) (w : World) (hE : Errs w) : Calls Tryz.prog 216 #[.string s] w fun e w' => e = tri (numL s.data.toList) ∧ Below w.heap.size w w' := by
  have c1 := wlen_any s hs w
  have hle := wLen_le s.data.toList
  rw [len_list] at hle
  have c2 := parse_any (s.extract 0 (wLen s.data.toList)) (by rw [ByteArray.size_extract]; omega) w hE
  rw [ext_pre'] at c2
  obtain ⟨x, hx⟩ : ∃ x, x = numL s.data.toList := ⟨_, rfl⟩
  rw [← hx]
  unfold numL at hx
  obtain ⟨n, hn⟩ : ∃ n, n = wLen s.data.toList := ⟨_, rfl⟩
  rw [← hn] at c1 hle c2 hx
  have hnz : (n : Int) ≤ (s.size : Int) := by omega
  have C1 := Lib.hid c1
  have C2 := Lib.hid c2
  have HX := Lib.hid hx
  clear c1 c2 hx hn hE
  go_enter Tryz.func216, Tryz.ntmps216
  go_wp2_with fail
  refine C1.out.mono ?_
  rintro e w1 ⟨rfl, rfl⟩
  go_wp2_with fail
  refine C2.out.mono ?_
  rintro e w1 ⟨⟨v, hv⟩, hb⟩
  have HB := Lib.hid hb
  clear hb
  rcases hv with ⟨hok, rfl⟩ | ⟨hok, N, rfl⟩
  · have HX2 := HX.out
    rw [hok, if_pos rfl] at HX2
    have HX3 := Lib.hid HX2
    clear hok HX2
    go_wp2_with fail
    go_ret3
    exact ⟨tri_eq (a := 3) (b := n) (c := 0) HX3.out, HB.out⟩
  · have HX2 := HX.out
    rw [hok, if_neg (by decide)] at HX2
    have HX3 := Lib.hid HX2
    clear hok HX2
    go_wp2_with fail
    go_ret3
    exact ⟨tri_eq (a := 0) (b := 0) (c := 23) HX3.out, HB.out⟩
end Go.Proofs.YthjflofcgdfekaaGreatDoor

namespace Go.Proofs.YthjflofcgdfekaaGreatDoor
open Go.Shelf Go.RowKit Go.Proofs
def sh_lays260_ren : Go.Shelf.Ren := ⟨fun | 260 => 241 | n => n, fun | 9 => 9 | 21 => 21 | 3 => 3 | 4 => 4 | 5 => 5 | 119 => 316 | 0 => 0 | 46 => 241 | 139 => 319 | 138 => 318 | n => n, fun | 3 => 1 | 4 => 2 | n => n⟩
theorem sh_lays260 : Go.Proofs.Lays.n260 Tryz.prog sh_lays260_ren := {
  mixed := by kernel_rfl
  f260 := Tryz.func241.trans (congrArg some (by kernel_rfl))
  t0 := Tryz.underlying0
  a0 := Tryz.isAgg0
  z0 := Tryz.sizeOf0
  v0 := Tryz.zeroValue0
  t3 := Tryz.underlying3
  a3 := Tryz.isAgg3
  z3 := Tryz.sizeOf3
  v3 := Tryz.zeroValue3
  t4 := Tryz.underlying4
  a4 := Tryz.isAgg4
  z4 := Tryz.sizeOf4
  v4 := Tryz.zeroValue4
  t5 := Tryz.underlying5
  a5 := Tryz.isAgg5
  z5 := Tryz.sizeOf5
  v5 := Tryz.zeroValue5
  t9 := Tryz.underlying9
  a9 := Tryz.isAgg9
  z9 := Tryz.sizeOf9
  v9 := Tryz.zeroValue9
  t21 := Tryz.underlying21
  a21 := Tryz.isAgg21
  z21 := Tryz.sizeOf21
  v21 := Tryz.zeroValue21
  t46 := Tryz.underlying241
  a46 := Tryz.isAgg241
  z46 := Tryz.sizeOf241
  v46 := Tryz.zeroValue241
  t119 := Tryz.underlying316
  a119 := Tryz.isAgg316
  z119 := Tryz.sizeOf316
  t138 := Tryz.underlying318
  a138 := Tryz.isAgg318
  z138 := Tryz.sizeOf318
  v138 := Tryz.zeroValue318
  t139 := Tryz.underlying319
  a139 := Tryz.isAgg319
  z139 := Tryz.sizeOf319
  v139 := Tryz.zeroValue319
  g3 := by kernel_rfl
  g4 := by kernel_rfl }
def sh_lays197_ren : Go.Shelf.Ren := ⟨fun | 197 => 212 | 260 => 241 | n => n, fun | 9 => 9 | 21 => 21 | 3 => 3 | 4 => 4 | 5 => 5 | 105 => 250 | 119 => 316 | 0 => 0 | 46 => 241 | 139 => 319 | 138 => 318 | n => n, fun | 3 => 1 | 4 => 2 | n => n⟩
theorem sh_lays197 : Go.Proofs.Lays.n197 Tryz.prog sh_lays197_ren := {
  mixed := by kernel_rfl
  f197 := Tryz.func212.trans (congrArg some (by kernel_rfl))
  f260 := Tryz.func241.trans (congrArg some (by kernel_rfl))
  t0 := Tryz.underlying0
  a0 := Tryz.isAgg0
  z0 := Tryz.sizeOf0
  v0 := Tryz.zeroValue0
  t3 := Tryz.underlying3
  a3 := Tryz.isAgg3
  z3 := Tryz.sizeOf3
  v3 := Tryz.zeroValue3
  t4 := Tryz.underlying4
  a4 := Tryz.isAgg4
  z4 := Tryz.sizeOf4
  v4 := Tryz.zeroValue4
  t5 := Tryz.underlying5
  a5 := Tryz.isAgg5
  z5 := Tryz.sizeOf5
  v5 := Tryz.zeroValue5
  t9 := Tryz.underlying9
  a9 := Tryz.isAgg9
  z9 := Tryz.sizeOf9
  v9 := Tryz.zeroValue9
  t21 := Tryz.underlying21
  a21 := Tryz.isAgg21
  z21 := Tryz.sizeOf21
  v21 := Tryz.zeroValue21
  t46 := Tryz.underlying241
  a46 := Tryz.isAgg241
  z46 := Tryz.sizeOf241
  v46 := Tryz.zeroValue241
  t105 := Tryz.underlying250
  a105 := Tryz.isAgg250
  z105 := Tryz.sizeOf250
  v105 := Tryz.zeroValue250
  t119 := Tryz.underlying316
  a119 := Tryz.isAgg316
  z119 := Tryz.sizeOf316
  t138 := Tryz.underlying318
  a138 := Tryz.isAgg318
  z138 := Tryz.sizeOf318
  v138 := Tryz.zeroValue318
  t139 := Tryz.underlying319
  a139 := Tryz.isAgg319
  z139 := Tryz.sizeOf319
  v139 := Tryz.zeroValue319
  g3 := by kernel_rfl
  g4 := by kernel_rfl }
theorem sh_utf8_DecodeRuneInString (s : ByteArray) (w : World) (hT : Lib.Utf8Tabs 1 2 w) :
    Calls Tryz.prog 212 #[.string s] w fun e w' => e = .returned (.tuple #[.int .i32 (Lib.decodeGo s).1, .int .i64 (Lib.decodeGo s).2]) ∧ Below w.heap.size w w' := Any.utf8_DecodeRuneInString sh_lays197 s w hT
end Go.Proofs.YthjflofcgdfekaaGreatDoor
namespace Go.Proofs.YthjflofcgdfekaaGreatDoor
open Go.RowKit
theorem get_of (t : ByteArray) (i : Nat) : t.get! i = t.data.toList.getD i 0 := by
  obtain ⟨⟨l⟩⟩ := t
  show (Array.mk l)[i]! = l.getD i 0
  rw [getElem!_def]
  simp only [List.getD_eq_getElem?_getD]
  cases h : l[i]? with
  | none => simp [h]; rfl
  | some v => simp [h]
theorem decode_zero (t : ByteArray) : Utf8.decode t 0 = dec t.data.toList := by
  rw [Lib.decode_at, get_of, get_of, get_of, get_of]
  unfold dec
  simp
theorem ext_list (s : ByteArray) (i j : Nat) : (s.extract i j).data.toList = (s.data.toList.drop i).take (j - i) := by
  rw [ByteArray.data_extract, Array.toList_extract, List.extract_eq_take_drop]
theorem ext_end (s : ByteArray) (k : Nat) : (s.extract k s.size).data.toList = tl s k := by
  rw [ext_list]
  exact List.take_of_length_le (by simp)
abbrev Tabs (w : World) : Prop := Lib.Utf8Tabs 1 2 w
set_option maxHeartbeats 1000000 in
theorem next_in (s : ByteArray) (k : Nat) (w : World) (hT : Tabs w) (_hs : s.size ≤ 100000) (hk : k < s.size) :
    Calls Tryz.prog 165 #[.string s, .int .i64 k] w fun e w' => e = .returned (.tuple #[.int .i32 (dec (tl s k)).1, .int .i64 (dec (tl s k)).2]) ∧ Below w.heap.size w w' := by
  have c := sh_utf8_DecodeRuneInString (s.extract k s.size) w hT
  have e1 : Lib.decodeGo (s.extract k s.size) = dec (tl s k) := by
    unfold Lib.decodeGo
    rw [if_neg (by rw [ByteArray.size_extract]; omega), decode_zero, ext_end]
  rw [e1] at c
  have C := Lib.hid c
  have h1 : ¬ ((s.size : Int) ≤ (k : Int)) := by omega
  clear c e1
  go_enter Tryz.func165, Tryz.ntmps165
  go_wp2_with fail
  refine C.out.mono ?_
  rintro e w1 ⟨rfl, hb⟩
  have HB := Lib.hid hb
  clear hb
  go_wp2_with fail
  go_ret2
  exact ⟨rfl, HB.out⟩
end Go.Proofs.YthjflofcgdfekaaGreatDoor
namespace Go.Proofs.YthjflofcgdfekaaGreatDoor
open Go.RowKit
def Upto (s : ByteArray) (k : Nat) : Prop := badAt s.data.toList = (badAt (tl s k)).map (· + k)
theorem tl_zero (s : ByteArray) : tl s 0 = s.data.toList := rfl
theorem Upto.first (s : ByteArray) : Upto s 0 := by
  unfold Upto
  rw [tl_zero]
  cases badAt s.data.toList <;> simp
theorem Upto.next {s : ByteArray} {k : Nat} (h : Upto s k) (hk : k < s.size) (hok : okc (tl s k) = true) : Upto s (k + (dec (tl s k)).2) := by
  unfold Upto at h ⊢
  rw [h, bad_step (tl_ne s k hk) hok, tl_drop, Option.map_map]
  congr 1
  funext x
  simp only [Function.comp_apply]
  omega
theorem Upto.here {s : ByteArray} {k : Nat} (h : Upto s k) (hk : k < s.size) (hok : okc (tl s k) = false) : badI s.data.toList = k := by
  unfold Upto at h
  rw [bad_here (tl_ne s k hk) hok] at h
  unfold badI
  rw [h]
  simp
theorem Upto.done {s : ByteArray} {k : Nat} (h : Upto s k) (hk : s.size ≤ k) : badI s.data.toList = -1 := by
  unfold Upto at h
  rw [tl_end s k hk, bad_nil] at h
  exact badI_none h
set_option maxHeartbeats 2000000 in
theorem bad_any (s : ByteArray) (w : World) (hT : Tabs w) (hs : s.size ≤ 100000) :
    Calls Tryz.prog 133 #[.string s] w fun e w' => e = .returned (.int .i64 (badI s.data.toList)) ∧ Below w.heap.size w w' := by
  have HT := Lib.hid hT
  clear hT
  go_enter Tryz.func133, Tryz.ntmps133
  go_wp2_with fail
  go_loopg [3] s.size (fun kx a wr => ∃ k : Nat, a = .int .i64 k ∧ k ≤ s.size ∧ s.size - k ≤ kx ∧ Hid (Upto s k) ∧ Hid (Tabs wr) ∧ Hid (Below w.heap.size w wr))
  case atStart => exact ⟨0, rfl, by omega, by omega, Upto.first s, HT.out, Below.refl _ _⟩
  case round =>
    obtain ⟨k, rfl, hk, hkx, HU, HW, HB⟩ := hrel
    by_cases hlt : k < s.size
    · have hlz : (k : Int) < (s.size : Int) := by omega
      have hd := dec_w s k hlt
      obtain ⟨r, hr⟩ : ∃ r, r = (dec (tl s k)).1 := ⟨_, rfl⟩
      obtain ⟨n, hn⟩ : ∃ n, n = (dec (tl s k)).2 := ⟨_, rfl⟩
      have c := next_in s k wr HW.out hs hlt
      rw [← hr, ← hn] at c
      rw [← hn] at hd
      have C := Lib.hid c
      have HR := Lib.hid hr
      have HN := Lib.hid hn
      clear c hr hn
      go_wp2_with fail
      refine C.out.mono ?_
      rintro e w1 ⟨rfl, hb⟩
      have HB1 := Lib.hid (HB.out.trans (hb.mono HB.out.size))
      have HT1 := Lib.hid (Utf8Tabs_below HW.out hb)
      clear hb
      cases hok : okc (tl s k)
      · have hbad := okc_bad hok
        rw [hbad] at HR HN
        obtain rfl := HR.out
        obtain rfl := HN.out
        have HF := Lib.hid (HU.out.here hlt hok)
        clear hbad hok
        go_wp2_with fail
        go_ret
        exact ⟨ri HF.out.symm, HB1.out⟩
      · have hne := okc_ne hok
        have hrn : ¬ (r = 65533 ∧ n = 1) := fun h => hne (Prod.ext (by rw [← HR.out]; exact h.1) (by rw [← HN.out]; exact h.2))
        have HF := Lib.hid (HU.out.next hlt hok)
        rw [← HN.out] at HF
        clear hne hok
        by_cases hr : r = 65533
        · have h1 : ((r : Int) == 65533) = true := by simp; omega
          have h2 : ((n : Int) == 1) = false := by simp; omega
          clear hrn hr
          go_wp2_with fail
          go_roundg (s.size - (k + n))
          case measure => omega
          case rel => exact ⟨k + n, by go_num, by omega, by omega, HF.out, HT1.out, HB1.out⟩
        · have h1 : ((r : Int) == 65533) = false := by simp; omega
          clear hrn hr
          go_wp2_with fail
          go_roundg (s.size - (k + n))
          case measure => omega
          case rel => exact ⟨k + n, by go_num, by omega, by omega, HF.out, HT1.out, HB1.out⟩
    · have hlz : ¬ (k : Int) < (s.size : Int) := by omega
      have HF := Lib.hid (HU.out.done (by omega))
      go_wp2_with fail
      go_ret
      exact ⟨ri HF.out.symm, HB.out⟩
end Go.Proofs.YthjflofcgdfekaaGreatDoor

