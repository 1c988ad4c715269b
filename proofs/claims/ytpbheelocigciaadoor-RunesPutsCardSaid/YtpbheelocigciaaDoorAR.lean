/- Contracts: a character's bytes, appended to a row that a conversion made; package runes' Put. -/
import Derived.Test.YtpbheelocigciaaDoorOM
import Derived.Test.YtpbheelocigciaaDoorRC
import Derived.Shelf.Strings.BuilderK
namespace Go.Proofs.YtpbheelocigciaaDoor
open Go.RowKit
open Go.Lib (encodeRune runeCells)

theorem cells_three (w : World) (a b c : Value) (j : Nat) (u : Value) (hj : [a, b, c][j]? = some u) : (w.alloc (.cells #[a, b, c] 5)).cell? ((⟨w.heap.size, 0, none⟩ : Addr).add j) = some u := by
  match j, hj with
  | 0, hj => simp at hj; subst hj; simp [Addr.add]
  | 1, hj => simp at hj; subst hj; simp [Addr.add]
  | 2, hj => simp at hj; subst hj; simp [Addr.add]
  | (j + 3), hj => simp at hj
theorem cells_four (w : World) (a b c d : Value) (j : Nat) (u : Value) (hj : [a, b, c, d][j]? = some u) : (w.alloc (.cells #[a, b, c, d] 5)).cell? ((⟨w.heap.size, 0, none⟩ : Addr).add j) = some u := by
  match j, hj with
  | 0, hj => simp at hj; subst hj; simp [Addr.add]
  | 1, hj => simp at hj; subst hj; simp [Addr.add]
  | 2, hj => simp at hj; subst hj; simp [Addr.add]
  | 3, hj => simp at hj; subst hj; simp [Addr.add]
  | (j + 4), hj => simp at hj
/-- What appending a character comes to. -/
def Appd (w : World) (B : Nat) (v : Value) (l : List UInt8) (r : Int) (e : Ending) (w' : World) : Prop :=
  ∃ v', e = .returned v' ∧ OwnM w' B v' (l ++ encodeRune r) ∧ ∃ o, (w.alloc o).grownBy w' v.ownBlock
theorem enc_len (r : Int) : (encodeRune r).length = (Lib.encodeRuneZ r).length := by simp [encodeRune]
theorem cells_enc {r : Int} {zs : List Int} (h : Lib.encodeRuneZ r = zs) : Lib.byteCells (encodeRune r) = zs.map (Value.int .u8) := by rw [Lib.byteCells_encodeRune, runeCells, h]

set_option maxHeartbeats 4000000 in
set_option maxRecDepth 100000 in
theorem appr_two (B : Nat) (v : Value) (l : List UInt8) (r : Int) (h0 : 128 ≤ r) (h1 : r ≤ 2047) (w : World) (hown : OwnM w B v l) (hlim : l.length + 4 ≤ 140737488355328) (hB : B ≤ w.heap.size) :
    Calls Tryd.prog 50 #[v, .int .i32 r] w (Appd w B v l r) := by
  have hz : Lib.encodeRuneZ r = [192 + r / 64, 128 + r % 64] := Lib.encodeRuneZ_two h0 h1
  have hlen := enc_len r
  rw [hz] at hlen
  have hc : ∀ j u, (Lib.byteCells (encodeRune r))[j]? = some u → (w.alloc (.cells #[.int .u8 (192 + r / 64), .int .u8 (128 + r % 64)] 5)).cell? ((⟨w.heap.size, 0, none⟩ : Addr).add j) = some u := by
    rw [cells_enc hz]
    exact cells_two w _ _
  have HL := Lib.hid hlen
  have HC := Lib.hid hc
  clear hz hlen hc
  go_enter Tryd.func50, Tryd.ntmps50
  go_wp2_with (at_builtin; refine wpList_append_mark rfl (.tmp 14) (.tmp 23) rfl rfl (hown.alloc _) ⟨w.heap.size, 0, none⟩ 2 (encodeRune r) 2 HL.out rfl HC.out (by have := HL.out; simp at this; omega) (by simp; omega) ?_; intro v' w2 hown' hgrow)
  go_wp2
  go_ret
  exact ⟨_, rfl, hown', _, hgrow⟩

set_option maxHeartbeats 4000000 in
set_option maxRecDepth 100000 in
theorem appr_three_lo (B : Nat) (v : Value) (l : List UInt8) (r : Int) (h0 : 2048 ≤ r) (h1 : r < 55296) (w : World) (hown : OwnM w B v l) (hlim : l.length + 4 ≤ 140737488355328) (hB : B ≤ w.heap.size) :
    Calls Tryd.prog 50 #[v, .int .i32 r] w (Appd w B v l r) := by
  have hz : Lib.encodeRuneZ r = [224 + r / 4096, 128 + r / 64 % 64, 128 + r % 64] := Lib.encodeRuneZ_three (.inl ⟨h0, h1⟩)
  have hlen := enc_len r
  rw [hz] at hlen
  have hc : ∀ j u, (Lib.byteCells (encodeRune r))[j]? = some u → (w.alloc (.cells #[.int .u8 (224 + r / 4096), .int .u8 (128 + r / 64 % 64), .int .u8 (128 + r % 64)] 5)).cell? ((⟨w.heap.size, 0, none⟩ : Addr).add j) = some u := by
    rw [cells_enc hz]
    exact cells_three w _ _ _
  have HL := Lib.hid hlen
  have HC := Lib.hid hc
  clear hz hlen hc
  go_enter Tryd.func50, Tryd.ntmps50
  go_wp2_with (at_builtin; refine wpList_append_mark rfl (.tmp 34) (.tmp 48) rfl rfl (hown.alloc _) ⟨w.heap.size, 0, none⟩ 3 (encodeRune r) 3 HL.out rfl HC.out (by have := HL.out; simp at this; omega) (by simp; omega) ?_; intro v' w2 hown' hgrow)
  go_wp2
  go_ret
  exact ⟨_, rfl, hown', _, hgrow⟩

set_option maxHeartbeats 4000000 in
set_option maxRecDepth 100000 in
theorem appr_three_hi (B : Nat) (v : Value) (l : List UInt8) (r : Int) (h0 : 57343 < r) (h1 : r ≤ 65535) (w : World) (hown : OwnM w B v l) (hlim : l.length + 4 ≤ 140737488355328) (hB : B ≤ w.heap.size) :
    Calls Tryd.prog 50 #[v, .int .i32 r] w (Appd w B v l r) := by
  have hz : Lib.encodeRuneZ r = [224 + r / 4096, 128 + r / 64 % 64, 128 + r % 64] := Lib.encodeRuneZ_three (.inr ⟨h0, h1⟩)
  have hlen := enc_len r
  rw [hz] at hlen
  have hc : ∀ j u, (Lib.byteCells (encodeRune r))[j]? = some u → (w.alloc (.cells #[.int .u8 (224 + r / 4096), .int .u8 (128 + r / 64 % 64), .int .u8 (128 + r % 64)] 5)).cell? ((⟨w.heap.size, 0, none⟩ : Addr).add j) = some u := by
    rw [cells_enc hz]
    exact cells_three w _ _ _
  have HL := Lib.hid hlen
  have HC := Lib.hid hc
  clear hz hlen hc
  go_enter Tryd.func50, Tryd.ntmps50
  go_wp2_with (at_builtin; refine wpList_append_mark rfl (.tmp 34) (.tmp 48) rfl rfl (hown.alloc _) ⟨w.heap.size, 0, none⟩ 3 (encodeRune r) 3 HL.out rfl HC.out (by have := HL.out; simp at this; omega) (by simp; omega) ?_; intro v' w2 hown' hgrow)
  go_wp2
  go_ret
  exact ⟨_, rfl, hown', _, hgrow⟩

set_option maxHeartbeats 4000000 in
set_option maxRecDepth 100000 in
theorem appr_four (B : Nat) (v : Value) (l : List UInt8) (r : Int) (h0 : 65536 ≤ r) (h1 : r ≤ 1114111) (w : World) (hown : OwnM w B v l) (hlim : l.length + 4 ≤ 140737488355328) (hB : B ≤ w.heap.size) :
    Calls Tryd.prog 50 #[v, .int .i32 r] w (Appd w B v l r) := by
  have hz : Lib.encodeRuneZ r = [240 + r / 262144, 128 + r / 4096 % 64, 128 + r / 64 % 64, 128 + r % 64] := Lib.encodeRuneZ_four h0 h1
  have hlen := enc_len r
  rw [hz] at hlen
  have hc : ∀ j u, (Lib.byteCells (encodeRune r))[j]? = some u → (w.alloc (.cells #[.int .u8 (240 + r / 262144), .int .u8 (128 + r / 4096 % 64), .int .u8 (128 + r / 64 % 64), .int .u8 (128 + r % 64)] 5)).cell? ((⟨w.heap.size, 0, none⟩ : Addr).add j) = some u := by
    rw [cells_enc hz]
    exact cells_four w _ _ _ _
  have HL := Lib.hid hlen
  have HC := Lib.hid hc
  clear hz hlen hc
  go_enter Tryd.func50, Tryd.ntmps50
  go_wp2_with (at_builtin; refine wpList_append_mark rfl (.tmp 57) (.tmp 76) rfl rfl (hown.alloc _) ⟨w.heap.size, 0, none⟩ 4 (encodeRune r) 4 HL.out rfl HC.out (by have := HL.out; simp at this; omega) (by simp; omega) ?_; intro v' w2 hown' hgrow)
  go_wp2
  go_ret
  exact ⟨_, rfl, hown', _, hgrow⟩

set_option maxHeartbeats 4000000 in
set_option maxRecDepth 100000 in
theorem appr_bad_neg (B : Nat) (v : Value) (l : List UInt8) (r : Int) (h0 : -2147483648 ≤ r) (h1 : r < 0) (w : World) (hown : OwnM w B v l) (hlim : l.length + 4 ≤ 140737488355328) (hB : B ≤ w.heap.size) :
    Calls Tryd.prog 50 #[v, .int .i32 r] w (Appd w B v l r) := by
  have hz : Lib.encodeRuneZ r = [239, 191, 189] := Lib.encodeRuneZ_bad (.inl h1)
  have hlen := enc_len r
  rw [hz] at hlen
  have hc : ∀ j u, (Lib.byteCells (encodeRune r))[j]? = some u → (w.alloc (.cells #[.int .u8 (239), .int .u8 (191), .int .u8 (189)] 5)).cell? ((⟨w.heap.size, 0, none⟩ : Addr).add j) = some u := by
    rw [cells_enc hz]
    exact cells_three w _ _ _
  have HL := Lib.hid hlen
  have HC := Lib.hid hc
  clear hz hlen hc
  go_enter Tryd.func50, Tryd.ntmps50
  go_wp2_with (at_builtin; refine wpList_append_mark rfl (.tmp 8) (.tmp 9) rfl rfl (hown.alloc _) ⟨w.heap.size, 0, none⟩ 3 (encodeRune r) 3 HL.out rfl HC.out (by have := HL.out; simp at this; omega) (by simp; omega) ?_; intro v' w2 hown' hgrow)
  go_wp2
  go_ret
  exact ⟨_, rfl, hown', _, hgrow⟩

set_option maxHeartbeats 4000000 in
set_option maxRecDepth 100000 in
theorem appr_bad_sur (B : Nat) (v : Value) (l : List UInt8) (r : Int) (h0 : 55296 ≤ r) (h1 : r ≤ 57343) (w : World) (hown : OwnM w B v l) (hlim : l.length + 4 ≤ 140737488355328) (hB : B ≤ w.heap.size) :
    Calls Tryd.prog 50 #[v, .int .i32 r] w (Appd w B v l r) := by
  have hz : Lib.encodeRuneZ r = [239, 191, 189] := Lib.encodeRuneZ_bad (.inr (.inl ⟨h0, h1⟩))
  have hlen := enc_len r
  rw [hz] at hlen
  have hc : ∀ j u, (Lib.byteCells (encodeRune r))[j]? = some u → (w.alloc (.cells #[.int .u8 (239), .int .u8 (191), .int .u8 (189)] 5)).cell? ((⟨w.heap.size, 0, none⟩ : Addr).add j) = some u := by
    rw [cells_enc hz]
    exact cells_three w _ _ _
  have HL := Lib.hid hlen
  have HC := Lib.hid hc
  clear hz hlen hc
  go_enter Tryd.func50, Tryd.ntmps50
  go_wp2_with (at_builtin; refine wpList_append_mark rfl (.tmp 8) (.tmp 9) rfl rfl (hown.alloc _) ⟨w.heap.size, 0, none⟩ 3 (encodeRune r) 3 HL.out rfl HC.out (by have := HL.out; simp at this; omega) (by simp; omega) ?_; intro v' w2 hown' hgrow)
  go_wp2
  go_ret
  exact ⟨_, rfl, hown', _, hgrow⟩

set_option maxHeartbeats 4000000 in
set_option maxRecDepth 100000 in
theorem appr_bad_big (B : Nat) (v : Value) (l : List UInt8) (r : Int) (h0 : 1114111 < r) (h1 : r ≤ 2147483647) (w : World) (hown : OwnM w B v l) (hlim : l.length + 4 ≤ 140737488355328) (hB : B ≤ w.heap.size) :
    Calls Tryd.prog 50 #[v, .int .i32 r] w (Appd w B v l r) := by
  have hz : Lib.encodeRuneZ r = [239, 191, 189] := Lib.encodeRuneZ_bad (.inr (.inr h0))
  have hlen := enc_len r
  rw [hz] at hlen
  have hc : ∀ j u, (Lib.byteCells (encodeRune r))[j]? = some u → (w.alloc (.cells #[.int .u8 (239), .int .u8 (191), .int .u8 (189)] 5)).cell? ((⟨w.heap.size, 0, none⟩ : Addr).add j) = some u := by
    rw [cells_enc hz]
    exact cells_three w _ _ _
  have HL := Lib.hid hlen
  have HC := Lib.hid hc
  clear hz hlen hc
  go_enter Tryd.func50, Tryd.ntmps50
  go_wp2_with (at_builtin; refine wpList_append_mark rfl (.tmp 8) (.tmp 9) rfl rfl (hown.alloc _) ⟨w.heap.size, 0, none⟩ 3 (encodeRune r) 3 HL.out rfl HC.out (by have := HL.out; simp at this; omega) (by simp; omega) ?_; intro v' w2 hown' hgrow)
  go_wp2
  go_ret
  exact ⟨_, rfl, hown', _, hgrow⟩

set_option maxHeartbeats 4000000 in
set_option maxRecDepth 100000 in
theorem appr_ascii (B : Nat) (v : Value) (l : List UInt8) (r : Int) (h0 : 0 ≤ r) (h1 : r ≤ 127) (w : World) (hown : OwnM w B v l) (hlim : l.length + 4 ≤ 140737488355328) (hB : B ≤ w.heap.size) :
    Calls Tryd.prog 39 #[v, .int .i32 r] w (Appd w B v l r) := by
  have hz : Lib.encodeRuneZ r = [r] := Lib.encodeRuneZ_one h0 h1
  have hlen := enc_len r
  rw [hz] at hlen
  have hc : ∀ j u, (Lib.byteCells (encodeRune r))[j]? = some u → (w.alloc (.cells #[.int .u8 (r)] 5)).cell? ((⟨w.heap.size, 0, none⟩ : Addr).add j) = some u := by
    rw [cells_enc hz]
    exact cells_one w _
  have HL := Lib.hid hlen
  have HC := Lib.hid hc
  clear hz hlen hc
  go_enter Tryd.func39, Tryd.ntmps39
  go_wp2_with (at_builtin; refine wpList_append_mark rfl (.tmp 8) (.tmp 11) rfl rfl (hown.alloc _) ⟨w.heap.size, 0, none⟩ 1 (encodeRune r) 1 HL.out rfl HC.out (by have := HL.out; simp at this; omega) (by simp; omega) ?_; intro v' w2 hown' hgrow)
  go_wp2
  go_ret
  exact ⟨_, rfl, hown', _, hgrow⟩

theorem appr_high (B : Nat) (v : Value) (l : List UInt8) (r : Int) (h0 : -2147483648 ≤ r) (h1 : r ≤ 2147483647) (h : r < 0 ∨ 128 ≤ r) (w : World) (hown : OwnM w B v l) (hlim : l.length + 4 ≤ 140737488355328) (hB : B ≤ w.heap.size) :
    Calls Tryd.prog 50 #[v, .int .i32 r] w (Appd w B v l r) := by
  by_cases c1 : r < 0
  · exact appr_bad_neg B v l r h0 c1 w hown hlim hB
  by_cases c2 : r ≤ 2047
  · exact appr_two B v l r (by omega) c2 w hown hlim hB
  by_cases c3 : r < 55296
  · exact appr_three_lo B v l r (by omega) c3 w hown hlim hB
  by_cases c4 : r ≤ 57343
  · exact appr_bad_sur B v l r (by omega) c4 w hown hlim hB
  by_cases c5 : r ≤ 65535
  · exact appr_three_hi B v l r (by omega) c5 w hown hlim hB
  by_cases c6 : r ≤ 1114111
  · exact appr_four B v l r (by omega) c6 w hown hlim hB
  · exact appr_bad_big B v l r (by omega) h1 w hown hlim hB
set_option maxHeartbeats 1000000 in
theorem appr_other (B : Nat) (v : Value) (l : List UInt8) (r : Int) (h0 : -2147483648 ≤ r) (h1 : r ≤ 2147483647) (h : r < 0 ∨ 128 ≤ r) (w : World) (hown : OwnM w B v l) (hlim : l.length + 4 ≤ 140737488355328) (hB : B ≤ w.heap.size) :
    Calls Tryd.prog 39 #[v, .int .i32 r] w (Appd w B v l r) := by
  have C := Lib.hid (appr_high B v l r h0 h1 h w hown hlim hB)
  clear hown
  rcases h with h | h
  all_goals
    go_enter Tryd.func39, Tryd.ntmps39
    go_wp2_with fail
    refine C.out.mono ?_
    rintro e w1 ⟨v', rfl, R1, o, R2⟩
    go_wp2
    go_ret
    exact ⟨_, rfl, R1, o, R2⟩
theorem appr_any (B : Nat) (v : Value) (l : List UInt8) (r : Int) (h0 : -2147483648 ≤ r) (h1 : r ≤ 2147483647) (w : World) (hown : OwnM w B v l) (hlim : l.length + 4 ≤ 140737488355328) (hB : B ≤ w.heap.size) :
    Calls Tryd.prog 39 #[v, .int .i32 r] w (Appd w B v l r) := by
  by_cases c : 0 ≤ r ∧ r ≤ 127
  · exact appr_ascii B v l r c.1 c.2 w hown hlim hB
  · exact appr_other B v l r h0 h1 (by omega) w hown hlim hB

/-- The address A holds the characters rs, one cell each, below block B; no address is asked for where there is none. -/
def Runes (w : World) (B : Nat) (A : Option Addr) (rs : List Int) : Prop :=
  0 < rs.length → ∃ b o : Nat, A = some ⟨b, o, none⟩ ∧ b < B ∧ ∀ j, j < rs.length → w.cell? ⟨b, o + j, none⟩ = some (.int .i32 (rs.getD j 0))
theorem Runes.below {w w' : World} {B : Nat} {A : Option Addr} {rs : List Int} (h : Runes w B A rs) (hb : Below B w w') : Runes w' B A rs := fun hn => by
  obtain ⟨b, o, e, hlt, hc⟩ := h hn
  exact ⟨b, o, e, hlt, fun j hj => (hb.cell (p := ⟨b, o + j, none⟩) hlt).trans (hc j hj)⟩
/-- Each is an int32. -/
def I32 (rs : List Int) : Prop := ∀ j, j < rs.length → -2147483648 ≤ rs.getD j 0 ∧ rs.getD j 0 ≤ 2147483647
theorem encs_take (rs : List Int) (k : Nat) (h : k < rs.length) : encs (rs.take (k + 1)) = encs (rs.take k) ++ encodeRune (rs.getD k 0) := by
  rw [List.take_succ_eq_append_getElem h, encs_snoc]
  simp [List.getD_eq_getElem?_getD, h]
theorem encs_len (rs : List Int) : (encs rs).length ≤ 4 * rs.length := by
  induction rs with
  | nil => simp [encs]
  | cons r rs ih =>
    have e : encs (r :: rs) = encodeRune r ++ encs rs := rfl
    have h := (Lib.encodeRuneZ_length r).2
    rw [e, List.length_append, enc_len, List.length_cons]
    omega

set_option maxHeartbeats 4000000 in
theorem put_any (s : ByteArray) (A : Option Addr) (rs : List Int) (cap : Nat) (w : World) (hs : s.size ≤ 100000) (hr : rs.length ≤ 100000) (hA : Runes w w.heap.size A rs) (hi : I32 rs) :
    Calls Tryd.prog 22 #[.string s, .slice A rs.length cap] w fun e w' => e = .returned (.string ⟨(s.data.toList ++ encs rs).toArray⟩) ∧ Below w.heap.size w w' := by
  obtain ⟨v0, w0, hmk, hown0, hb0⟩ := made_mark w s hs
  obtain ⟨F, hF⟩ : ∃ F, F = s.data.toList ++ encs rs := ⟨_, rfl⟩
  rw [← hF]
  have HFF := Lib.hid hF
  have HA := Lib.hid hA
  have HI := Lib.hid hi
  clear hA hi hF
  go_enter Tryd.func22, Tryd.ntmps22
  go_wp2_with fail
  go_loopg [5, 12] rs.length (fun kx x a wr => ∃ (k : Nat) (l : List UInt8) (v : Value), v = x ∧ a = .int .i64 k ∧ k ≤ rs.length ∧ rs.length - k ≤ kx ∧ Hid (l = s.data.toList ++ encs (rs.take k)) ∧ OwnM wr w.heap.size v l ∧ Below w.heap.size w wr)
  case atStart => exact ⟨0, _, _, rfl, rfl, by omega, by omega, by show _ = _; rw [List.take_zero]; simp [encs], hown0, hb0⟩
  case round =>
    clear hmk hown0 hb0
    obtain ⟨k, l, v, rfl, rfl, hk, hkx, HL, hown, hnx⟩ := hrel
    have hll : l.length ≤ s.size + 4 * rs.length := by
      have h1 := encs_len (rs.take k)
      rw [List.length_take] at h1
      rw [HL.out, List.length_append, len_list]
      omega
    have hbsz := hnx.size
    by_cases hlt : k < rs.length
    · have hlz : (k : Int) < (rs.length : Int) := by omega
      obtain ⟨b, o, rfl, hbB, hcells⟩ := HA.out (by omega)
      have hcell : wr.cell? ⟨b, o + k, none⟩ = some (.int .i32 (rs.getD k 0)) := (hnx.cell (p := ⟨b, o + k, none⟩) hbB).trans (hcells k hlt)
      obtain ⟨r, hr'⟩ : ∃ r, r = rs.getD k 0 := ⟨_, rfl⟩
      obtain ⟨r0, r1⟩ := HI.out k hlt
      rw [← hr'] at hcell r0 r1
      have C := Lib.hid (appr_any w.heap.size v l r r0 r1 wr hown (by omega) hbsz)
      have HN : Hid (l ++ encodeRune r = s.data.toList ++ encs (rs.take (k + 1))) := by
        show _ = _
        rw [HL.out, encs_take rs k hlt, hr', List.append_assoc]
      have HO := Lib.hid hown.lt
      clear hown hcells hr'
      go_wp2_with fail
      refine C.out.mono ?_
      rintro e w1 ⟨v', rfl, R1, ob, R2⟩
      have R3 := (hnx.alloc hbsz ob).grown R2 (by simp; omega) (fun j hj => (HO.out j hj).1)
      clear R2
      go_wp2
      go_roundg (rs.length - (k + 1))
      case measure => omega
      case rel => exact ⟨k + 1, _, _, rfl, by go_num, by omega, by omega, HN, R1, R3⟩
    · obtain rfl : k = rs.length := by omega
      have hlz : ¬ (rs.length : Int) < (rs.length : Int) := by omega
      have hcv := conv_mark hown
      have HF := HL.out
      rw [List.take_of_length_le (Nat.le_refl _)] at HF
      rw [HF, ← HFF.out] at hcv
      clear hown hlt HF HL hll
      go_wp2
      go_ret
      exact ⟨rfl, hnx⟩
end Go.Proofs.YtpbheelocigciaaDoor
