import Derived.Test.YthjflofcgdfekaaGreatDoorMAR
import Derived.Deep.LoopGhost
import Derived.Lib.UnsafeStr
import Derived.Laws.IdiomStrings
import Derived.Laws.MakeOwn
import Derived.OwnWalk
namespace Go.Proofs.YthjflofcgdfekaaGreatDoor
open Go.RowKit
theorem app_list (a b : ByteArray) : (a ++ b).data.toList = a.data.toList ++ b.data.toList := by rw [ByteArray.data_append, Array.toList_append]
theorem len_list (a : ByteArray) : a.data.toList.length = a.size := by simp
theorem take_next (s : ByteArray) (k : Nat) (h : k < s.size) : s.data.toList.take (k + 1) = s.data.toList.take k ++ [s[k]] := by
  rw [List.take_succ_eq_append_getElem (by simpa using h)]; rfl
theorem ext_one (s : ByteArray) (k : Nat) (h : k < s.size) : (s.extract k (k + 1)).data.toList = [s[k]] := by
  rw [ByteArray.data_extract, Array.toList_extract, List.extract_eq_take_drop, List.drop_eq_getElem_cons (by simpa using h)]
  simp
  rfl
theorem u8_eq {b : UInt8} {n : Nat} (hn : n < 256) (h : b.toNat = n) : b = UInt8.ofNat n := by
  apply UInt8.toNat_inj.1
  rw [h, UInt8.toNat_ofNat']
  omega
def Wr (s : ByteArray) (k : Nat) (O : ByteArray) : Prop := O.data.toList = 34 :: (s.data.toList.take k).flatMap esc
theorem Wr.next {s O X : ByteArray} {k : Nat} (h : Wr s k O) (hk : k < s.size) (hx : X.data.toList = esc s[k]) : Wr s (k + 1) (O ++ X) := by
  unfold Wr at h ⊢
  rw [app_list, h, hx, take_next s k hk, flat_snoc]
  rfl
theorem Wr.size {s O : ByteArray} {k : Nat} (h : Wr s k O) (hk : k ≤ s.size) : O.size ≤ 2 * k + 1 := by
  have h1 := congrArg List.length h
  have h2 := flat_len (s.data.toList.take k)
  rw [List.length_take, len_list] at h2
  rw [len_list, List.length_cons] at h1
  omega
end Go.Proofs.YthjflofcgdfekaaGreatDoor
namespace Go.Proofs.YthjflofcgdfekaaGreatDoor
open Go.RowKit
def Rd (W : List UInt8) (I O : ByteArray) : Prop := um W false = (um I.data.toList false).map (O.data.toList ++ ·)
theorem cons_one (I : ByteArray) (h : 0 < I.size) : I.data.toList = I[0] :: (I.extract 1 I.size).data.toList := by
  have e : (I.extract 1 I.size).data.toList = I.data.toList.drop 1 := by
    rw [ByteArray.data_extract, Array.toList_extract, List.extract_eq_take_drop]
    exact List.take_of_length_le (by simp)
  rw [e]
  have h' : 0 < I.data.toList.length := by simpa using h
  conv => lhs; rw [← List.drop_zero (l := I.data.toList), List.drop_eq_getElem_cons h']
  rfl
theorem Rd.low {W : List UInt8} {I O : ByteArray} (h : Rd W I O) (h0 : 0 < I.size) (hb : I[0].toNat < 32 ∨ I[0].toNat = 34) : um W false = none := by
  unfold Rd at h
  rw [h, cons_one I h0, um_low _ (by rw [ne_eq, ← UInt8.toNat_inj]; intro e; rw [e] at hb; revert hb; decide) (by rw [UInt8.lt_iff_toNat_lt, ← UInt8.toNat_inj]; exact hb)]
  rfl
theorem Rd.byte {W : List UInt8} {I O : ByteArray} (h : Rd W I O) (h0 : 0 < I.size) (hb : I[0].toNat ≠ 92) (hc : ¬ (I[0].toNat < 32 ∨ I[0].toNat = 34)) : Rd W (I.extract 1 I.size) (O ++ I.extract 0 1) := by
  unfold Rd at h ⊢
  have e : (I.extract 0 1).data.toList = [I[0]] := ext_one I 0 h0
  rw [app_list, e]
  refine um_pre (b := I[0]) (sl := false) ?_ (um_byte _ (by rw [ne_eq, ← UInt8.toNat_inj]; exact hb) (by rw [UInt8.lt_iff_toNat_lt, ← UInt8.toNat_inj]; exact hc))
  rw [h, ← cons_one I h0]
theorem Rd.done {W : List UInt8} {I O : ByteArray} (h : Rd W I O) (h0 : I.size = 0) : um W false = some O.data.toList := by
  unfold Rd at h
  have e : I.data.toList = [] := List.eq_nil_of_length_eq_zero (by rw [len_list]; exact h0)
  rw [h, e]
  simp [um_end]
def uq (l : List UInt8) : Ending := match unq l with
  | some o => .returned (.tuple #[.string ⟨o.toArray⟩, .int .i64 0])
  | none => .returned (.tuple #[.string ⟨#[]⟩, .int .i64 22])
theorem uq_none {l : List UInt8} (h : unq l = none) : Ending.returned (.tuple #[.string ⟨#[]⟩, .int .i64 22]) = uq l := by unfold uq; rw [h]
theorem uq_some {l : List UInt8} {O : ByteArray} (h : unq l = some O.data.toList) : Ending.returned (.tuple #[.string O, .int .i64 0]) = uq l := by
  unfold uq; rw [h]
def mid (s : ByteArray) : ByteArray := s.extract 1 (s.size - 1)
theorem mid_size (s : ByteArray) : (mid s).size = s.size - 2 := by unfold mid; rw [ByteArray.size_extract]; omega
theorem unq_mid (s : ByteArray) (h : 2 ≤ s.size) (h0 : s[0].toNat = 34) (h1 : s[s.size - 1].toNat = 34) : unq s.data.toList = um (mid s).data.toList false := by
  unfold unq
  have e : (mid s).data.toList = (s.data.toList.drop 1).take (s.data.toList.length - 2) := by
    unfold mid
    rw [ByteArray.data_extract, Array.toList_extract, List.extract_eq_take_drop, len_list]
    rfl
  have g0 : s.data.toList.getD 0 0 = 34 := by
    have := gb_of s 0 (by omega)
    unfold gb at this
    rw [← UInt8.toNat_inj, ← this, h0]; rfl
  have g1 : s.data.toList.getD (s.data.toList.length - 1) 0 = 34 := by
    rw [len_list]
    have := gb_of s (s.size - 1) (by omega)
    unfold gb at this
    rw [← UInt8.toNat_inj, ← this, h1]; rfl
  rw [if_neg (by rw [g0, g1, len_list]; simp; omega), e]
theorem unq_bad (s : ByteArray) (h : s.size < 2 ∨ gb s 0 ≠ 34 ∨ gb s (s.size - 1) ≠ 34) : unq s.data.toList = none := by
  unfold unq
  rw [if_pos]
  rw [len_list]
  unfold gb at h
  rcases h with h | h | h
  · exact .inl h
  · exact .inr (.inl fun e => h (by rw [e]; rfl))
  · exact .inr (.inr fun e => h (by rw [e]; rfl))
end Go.Proofs.YthjflofcgdfekaaGreatDoor
namespace Go.Proofs.YthjflofcgdfekaaGreatDoor
open Go.RowKit
theorem info5 : (Tryz.prog.info? 5).map (fun i => (i.zero, i.size, i.bytes)) = some (some (.int .u8 0), 1, 1) := by kernel_rfl
theorem conv_own {w : World} {base n : Nat} {v : Value} {l : List UInt8} (h : w.ownsRow base 5 1 v n (Lib.byteCells l)) :
    (convert 321 9 v).run Tryz.prog w = .ok (.string ⟨l.toArray⟩) w := by
  have hl : l.length = n := by have := h.1; simpa [Lib.byteCells] using this
  rcases h.2 with ⟨rfl, rfl⟩ | ⟨g, cap, cur, rfl, hb, hh, hnc, hcm, hsz, htk⟩
  · obtain rfl : l = [] := List.eq_nil_of_length_eq_zero hl
    rw [run_convert_bytes_string w 321 9 5 none 0 0 Tryz.underlying321 Tryz.underlying5 Tryz.underlying9]
    rfl
  · subst hl
    exact run_convert_bytes_back w 321 9 5 ⟨g, 0, none⟩ cap l Tryz.underlying321 Tryz.underlying5 Tryz.underlying9 fun j hj => h.cells (g := g) rfl j _ (by simp [Lib.byteCells, hj])
theorem cells_one (w : World) (a : Value) (j : Nat) (u : Value) (hj : [a][j]? = some u) : (w.alloc (.cells #[a] 5)).cell? ((⟨w.heap.size, 0, none⟩ : Addr).add j) = some u := by
  match j, hj with
  | 0, hj => simp at hj; subst hj; simp [Addr.add]
  | (j + 1), hj => simp at hj
theorem one1 (a : Int) : ∀ u ∈ [Value.int .u8 a], u.oneCell' = true := by intro u hu; simp at hu; subst hu; rfl
set_option maxHeartbeats 400000 in
theorem mean_yes (b : UInt8) (w : World) (h : mb b = true) : Calls Tryz.prog 262 #[.int .u8 b.toNat] w fun e w' => e = .returned (.tuple #[.int .u8 (mn b).toNat, .bool true]) ∧ w = w' := by
  simp only [mb, Bool.or_eq_true, beq_iff_eq] at h
  rcases h with ((rfl | rfl) | rfl) | rfl
  all_goals
    go_enter Tryz.func262, Tryz.ntmps262
    go_wp2
    go_ret2
    exact ⟨rfl, rfl⟩
set_option maxHeartbeats 400000 in
theorem mean_no (b : UInt8) (w : World) (h : mb b = false) : Calls Tryz.prog 262 #[.int .u8 b.toNat] w fun e w' => e = .returned (.tuple #[.int .u8 0, .bool false]) ∧ w = w' := by
  simp only [mb, Bool.or_eq_false_iff, beq_eq_false_iff_ne, ne_eq, ← UInt8.toNat_inj] at h
  obtain ⟨⟨⟨h1, h2⟩, h3⟩, h4⟩ := h
  have q1 : ((b.toNat : Int) == 110) = false := by simp; exact fun e => h1 (by rw [show b.toNat = 110 by omega]; rfl)
  have q2 : ((b.toNat : Int) == 116) = false := by simp; exact fun e => h2 (by rw [show b.toNat = 116 by omega]; rfl)
  have q3 : ((b.toNat : Int) == 34) = false := by simp; exact fun e => h3 (by rw [show b.toNat = 34 by omega]; rfl)
  have q4 : ((b.toNat : Int) == 92) = false := by simp; exact fun e => h4 (by rw [show b.toNat = 92 by omega]; rfl)
  clear h1 h2 h3 h4
  go_enter Tryz.func262, Tryz.ntmps262
  go_wp2
  go_ret2
  exact ⟨rfl, rfl⟩
end Go.Proofs.YthjflofcgdfekaaGreatDoor
namespace Go.Proofs.YthjflofcgdfekaaGreatDoor
open Go.RowKit
def Rp (W : List UInt8) (k : Nat) (sl : Bool) (O : List UInt8) : Prop := um W false = (um (W.drop k) sl).map (O ++ ·)
theorem drop_cons (T : ByteArray) (k : Nat) (h : k < T.size) : T.data.toList.drop k = T[k] :: T.data.toList.drop (k + 1) := by
  rw [List.drop_eq_getElem_cons (by simpa using h)]; rfl
theorem Rp.first (W : List UInt8) : Rp W 0 false [] := by unfold Rp; simp
theorem Rp.mean {T : ByteArray} {k : Nat} {O : List UInt8} (h : Rp T.data.toList k true O) (hk : k < T.size) (hm : mb T[k] = true) : Rp T.data.toList (k + 1) false (O ++ [mn T[k]]) := by
  unfold Rp at h ⊢
  rw [drop_cons T k hk] at h
  exact um_pre h (um_sign _ hm)
theorem Rp.nomean {T : ByteArray} {k : Nat} {O : List UInt8} (h : Rp T.data.toList k true O) (hk : k < T.size) (hm : mb T[k] = false) : um T.data.toList false = none := by
  unfold Rp at h
  rw [h, drop_cons T k hk, um_nosign _ hm]
  rfl
theorem Rp.slash {T : ByteArray} {k : Nat} {O : List UInt8} (h : Rp T.data.toList k false O) (hk : k < T.size) (hb : T[k].toNat = 92) : Rp T.data.toList (k + 1) true O := by
  unfold Rp at h ⊢
  rw [h, drop_cons T k hk, u8_eq (by decide) hb]
  rw [show UInt8.ofNat 92 = 92 from rfl, um_slash]
theorem Rp.low {T : ByteArray} {k : Nat} {O : List UInt8} (h : Rp T.data.toList k false O) (hk : k < T.size) (hb : T[k].toNat < 32 ∨ T[k].toNat = 34) : um T.data.toList false = none := by
  unfold Rp at h
  rw [h, drop_cons T k hk, um_low _ (by rw [ne_eq, ← UInt8.toNat_inj]; intro e; rw [e] at hb; revert hb; decide) (by rw [UInt8.lt_iff_toNat_lt, ← UInt8.toNat_inj]; exact hb)]
  rfl
theorem Rp.byte {T : ByteArray} {k : Nat} {O : List UInt8} (h : Rp T.data.toList k false O) (hk : k < T.size) (hb : T[k].toNat ≠ 92) (hc : ¬ (T[k].toNat < 32 ∨ T[k].toNat = 34)) : Rp T.data.toList (k + 1) false (O ++ [T[k]]) := by
  unfold Rp at h ⊢
  rw [drop_cons T k hk] at h
  exact um_pre h (um_byte _ (by rw [ne_eq, ← UInt8.toNat_inj]; exact hb) (by rw [UInt8.lt_iff_toNat_lt, ← UInt8.toNat_inj]; exact hc))
theorem Rp.done {T : ByteArray} {O : List UInt8} {sl : Bool} (h : Rp T.data.toList T.size sl O) : um T.data.toList false = if sl = true then none else some O := by
  unfold Rp at h
  rw [List.drop_of_length_le (by rw [len_list]; exact Nat.le_refl _), um_end] at h
  rw [h]
  cases sl <;> simp
set_option maxHeartbeats 2000000 in
theorem unquote_bad (s : ByteArray) (w : World) (hs : s.size ≤ 100000) (h : s.size < 2 ∨ gb s 0 ≠ 34 ∨ gb s (s.size - 1) ≠ 34) :
    Calls Tryz.prog 244 #[.string s] w fun e w' => e = uq s.data.toList ∧ Below w.heap.size w w' := by
  have HU := Lib.hid (unq_bad s h)
  by_cases h1 : s.size < 2
  · have h1z : (s.size : Int) - 1 < 1 := by omega
    clear h
    go_enter Tryz.func244, Tryz.ntmps244
    go_wp2_with fail
    go_ret2
    exact ⟨uq_none HU.out, Below.refl _ _⟩
  have h1z : ¬ (s.size : Int) - 1 < 1 := by omega
  have g0 := gb_of s 0 (by omega)
  have g1 := gb_of s (s.size - 1) (by omega)
  by_cases h2 : gb s 0 = 34
  · have q0 : (((s[0]'(by omega)).toNat : Int) != 34) = false := by simp; omega
    have q1 : (((s[s.size - 1]'(by omega)).toNat : Int) != 34) = true := by simp; omega
    have hx : s.size - 1 < s.size := by omega
    clear h g0 g1 h2
    go_enter Tryz.func244, Tryz.ntmps244
    go_wp2_with fail
    go_ret2
    exact ⟨uq_none HU.out, Below.refl _ _⟩
  · have q0 : (((s[0]'(by omega)).toNat : Int) != 34) = true := by simp; omega
    have hx : 0 < s.size := by omega
    clear h g0 g1 h2
    go_enter Tryz.func244, Tryz.ntmps244
    go_wp2_with fail
    go_ret2
    exact ⟨uq_none HU.out, Below.refl _ _⟩
set_option maxHeartbeats 4000000 in
set_option maxRecDepth 100000 in
theorem unquote_good (s : ByteArray) (w : World) (hs : s.size ≤ 100000) (h2 : 2 ≤ s.size) (h0 : gb s 0 = 34) (h1 : gb s (s.size - 1) = 34) :
    Calls Tryz.prog 244 #[.string s] w fun e w' => e = uq s.data.toList ∧ Below w.heap.size w w' := by
  obtain ⟨i0, hi, hz0, hz1, hz2⟩ := info_parts info5
  have g0 := gb_of s 0 (by omega)
  have g1 := gb_of s (s.size - 1) (by omega)
  have q0 : (((s[0]'(by omega)).toNat : Int) != 34) = false := by simp; omega
  have q1 : (((s[s.size - 1]'(by omega)).toNat : Int) != 34) = false := by simp; omega
  have hx : s.size - 1 < s.size := by omega
  have HU := Lib.hid (unq_mid s h2 (by omega) (by omega))
  have h1z : ¬ (s.size : Int) - 1 < 1 := by omega
  clear h0 h1 g0 g1
  have hms := mid_size s
  have HM := Lib.hid hms
  clear hms
  go_enter Tryz.func244, Tryz.ntmps244
  go_wp2_with (at_make; refine wpList_make_own _ rfl _ _ 321 rfl w.heap.size 5 i0 (.int .u8 0) 1 Tryz.underlying321 hi hz0 hz1 .i64 .i64 _ (s.size - 1 - 1) rfl rfl rfl (by rw [hz2]; omega) (by unfold maxLen; omega) (Nat.le_refl _) ?_; intro w0 hown0 hgrow0)
  have hb0 : Below w.heap.size w w0 := (Below.refl _ _).grown hgrow0 (Nat.le_refl _) (fun j hj => by cases hj)
  obtain ⟨T, hT⟩ : ∃ T, s.extract 1 (s.size - 1) = T := ⟨_, rfl⟩
  have hmT : mid s = T := hT
  rw [hmT] at HM HU
  have hTs : T.size ≤ 100000 := by have := HM.out; omega
  have hsz : s.size - 1 - 1 = T.size := by have := HM.out; omega
  rw [hT, hsz]
  rw [hsz] at hown0
  clear q0 q1 hgrow0 hT hmT hsz HM
  go_wp2_with fail
  go_loopg [6, 7, 36] T.size (fun kx v b a wr => ∃ (k n : Nat) (sl : Bool) (O : List UInt8), b = .bool sl ∧ a = .int .i64 k ∧ k ≤ T.size ∧ T.size - k ≤ kx ∧ n ≤ k ∧ Hid (Rp T.data.toList k sl O) ∧ wr.ownsRow w.heap.size 5 1 v n (Lib.byteCells O) ∧ Below w.heap.size w wr)
  case atStart => exact ⟨0, 0, false, [], rfl, rfl, by omega, by omega, by omega, Rp.first _, hown0, hb0⟩
  case round =>
    clear hown0 hb0
    obtain ⟨k, n, sl, O, rfl, rfl, hk, hkx, hn, HR, hown, hnx⟩ := hrel
    have hbsz := hnx.size
    by_cases hlt : k < T.size
    · have hlz : (k : Int) < (T.size : Int) := by omega
      cases sl
      · by_cases h92 : (T[k]'hlt).toNat = 92
        · have c1 : (((T[k]'hlt).toNat : Int) == 92) = true := by simp; omega
          have HN := Lib.hid (HR.out.slash hlt h92)
          clear h92
          go_wp2
          go_roundg (T.size - (k + 1))
          case measure => omega
          case rel => exact ⟨k + 1, n, true, _, rfl, by go_num, by omega, by omega, by omega, HN.out, hown, hnx⟩
        have c1 : (((T[k]'hlt).toNat : Int) == 92) = false := by simp; omega
        by_cases h32 : (T[k]'hlt).toNat < 32
        · have c2 : ((T[k]'hlt).toNat : Int) < 32 := by omega
          have HF := Lib.hid (HR.out.low hlt (.inl h32))
          clear h92 h32
          go_wp2
          go_ret2
          exact ⟨uq_none (HU.out.trans HF.out), hnx⟩
        have c2 : ¬ ((T[k]'hlt).toNat : Int) < 32 := by omega
        by_cases h34 : (T[k]'hlt).toNat = 34
        · have c3 : (((T[k]'hlt).toNat : Int) == 34) = true := by simp; omega
          have HF := Lib.hid (HR.out.low hlt (.inr h34))
          clear h92 h32 h34
          go_wp2
          go_ret2
          exact ⟨uq_none (HU.out.trans HF.out), hnx⟩
        have c3 : (((T[k]'hlt).toNat : Int) == 34) = false := by simp; omega
        have HN := Lib.hid (HR.out.byte hlt h92 (by omega))
        clear h92 h32 h34
        have b3 : n + 1 ≤ maxLen := by unfold maxLen; omega
        have b4 : (n + 1) * 1 ≤ 140737488355328 := by omega
        have b5 : w.heap.size ≤ (wr.alloc (.cells #[.int .u8 (T[k]'hlt).toNat] 5)).heap.size := by simp; omega
        go_wp2_with (at_builtin; refine wpList_append_own _ rfl (.tmp 42) (.tmp 44) 321 rfl w.heap.size 5 i0 (.int .u8 0) 1 1 Tryz.underlying321 hi hz0 hz1 hz2 rfl (by decide) _ _ _ rfl (hown.alloc _) ⟨wr.heap.size, 0, none⟩ 1 1 [.int .u8 (T[k]'hlt).toNat] rfl rfl (cells_one _ _) (one1 _) b3 b4 b5 ?_)
        intro v' w1 hown' hgrow _
        have R2 := (hnx.alloc hbsz (.cells #[.int .u8 (T[k]'hlt).toNat] 5)).grown hgrow (by simp; omega) (fun j hj => (hown.lt j hj).1)
        have R1 : w1.ownsRow w.heap.size 5 1 v' (n + 1) (Lib.byteCells (O ++ [T[k]'hlt])) := by rw [Lib.byteCells_append]; exact hown'
        clear hown' hgrow hown hnx b3 b4 b5
        go_wp2
        go_roundg (T.size - (k + 1))
        case measure => omega
        case rel => exact ⟨k + 1, n + 1, false, _, rfl, by go_num, by omega, by omega, by omega, HN.out, R1, R2⟩
      · cases hm : mb (T[k]'hlt)
        · have HF := Lib.hid (HR.out.nomean hlt hm)
          have C := Lib.hid (mean_no (T[k]'hlt) wr hm)
          clear hm
          go_wp2_with fail
          refine C.out.mono ?_
          rintro e w1 ⟨rfl, rfl⟩
          go_wp2
          go_ret2
          exact ⟨uq_none (HU.out.trans HF.out), hnx⟩
        · have HN := Lib.hid (HR.out.mean hlt hm)
          have C := Lib.hid (mean_yes (T[k]'hlt) wr hm)
          clear hm
          go_wp2_with fail
          refine C.out.mono ?_
          rintro e w1 ⟨rfl, rfl⟩
          have b3 : n + 1 ≤ maxLen := by unfold maxLen; omega
          have b4 : (n + 1) * 1 ≤ 140737488355328 := by omega
          have b5 : w.heap.size ≤ (wr.alloc (.cells #[.int .u8 (mn (T[k]'hlt)).toNat] 5)).heap.size := by simp; omega
          go_wp2_with (at_builtin; refine wpList_append_own _ rfl (.tmp 55) (.tmp 57) 321 rfl w.heap.size 5 i0 (.int .u8 0) 1 1 Tryz.underlying321 hi hz0 hz1 hz2 rfl (by decide) _ _ _ rfl (hown.alloc _) ⟨wr.heap.size, 0, none⟩ 1 1 [.int .u8 (mn (T[k]'hlt)).toNat] rfl rfl (cells_one _ _) (one1 _) b3 b4 b5 ?_)
          intro v' w1 hown' hgrow _
          have R2 := (hnx.alloc hbsz (.cells #[.int .u8 (mn (T[k]'hlt)).toNat] 5)).grown hgrow (by simp; omega) (fun j hj => (hown.lt j hj).1)
          have R1 : w1.ownsRow w.heap.size 5 1 v' (n + 1) (Lib.byteCells (O ++ [mn (T[k]'hlt)])) := by rw [Lib.byteCells_append]; exact hown'
          clear hown' hgrow hown hnx b3 b4 b5
          go_wp2
          go_roundg (T.size - (k + 1))
          case measure => omega
          case rel => exact ⟨k + 1, n + 1, false, _, rfl, by go_num, by omega, by omega, by omega, HN.out, R1, R2⟩
    · obtain rfl : k = T.size := by omega
      have hlz : ¬ (T.size : Int) < (T.size : Int) := by omega
      have HF := Lib.hid HR.out.done
      clear hlt
      cases sl
      · have hcv := conv_own hown
        clear hown
        go_wp2
        go_ret2
        exact ⟨uq_some (O := ⟨O.toArray⟩) (HU.out.trans HF.out), hnx⟩
      · clear hown
        go_wp2
        go_ret2
        exact ⟨uq_none (HU.out.trans HF.out), hnx⟩
theorem unquote_any (s : ByteArray) (w : World) (hs : s.size ≤ 100000) :
    Calls Tryz.prog 244 #[.string s] w fun e w' => e = uq s.data.toList ∧ Below w.heap.size w w' := by
  by_cases h : s.size < 2 ∨ gb s 0 ≠ 34 ∨ gb s (s.size - 1) ≠ 34
  · exact unquote_bad s w hs h
  · exact unquote_good s w hs (by omega) (by omega) (by omega)
end Go.Proofs.YthjflofcgdfekaaGreatDoor
namespace Go.Proofs.YthjflofcgdfekaaGreatDoor
open Go.RowKit
set_option maxHeartbeats 1000000 in
theorem letter_any (n : Int) (w : World) : Calls Tryz.prog 115 #[.int .u8 n] w fun e w' => e = .returned (.bool (letN n)) ∧ w = w' := by
  go_enter Tryz.func115, Tryz.ntmps115
  go_wp2
  all_goals
    go_ret
    exact ⟨rb (by simp [letN] <;> omega), rfl⟩
set_option maxHeartbeats 1000000 in
theorem digit_any (n : Int) (w : World) : Calls Tryz.prog 153 #[.int .u8 n] w fun e w' => e = .returned (.bool (digN n)) ∧ w = w' := by
  go_enter Tryz.func153, Tryz.ntmps153
  go_wp2
  all_goals
    go_ret
    exact ⟨rb (by simp [digN] <;> omega), rfl⟩
set_option maxHeartbeats 1000000 in
theorem blank_any (n : Int) (w : World) : Calls Tryz.prog 214 #[.int .u8 n] w fun e w' => e = .returned (.bool (blkN n)) ∧ w = w' := by
  go_enter Tryz.func214, Tryz.ntmps214
  go_wp2
  all_goals
    go_ret
    exact ⟨rb (by simp [blkN] <;> omega), rfl⟩
set_option maxHeartbeats 1000000 in
theorem wordc_any (n : Int) (c : Bool) (w : World) : Calls Tryz.prog 152 #[.int .u8 n] w fun e w' => e = .returned (.bool (wGo c n)) ∧ w = w' := by
  have c1 := letter_any n w
  have c2 := digit_any n w
  unfold wGo wdN
  cases h : letN n
  · rw [h] at c1
    have C1 := Lib.hid c1
    have C2 := Lib.hid c2
    clear c1 c2 h
    go_enter Tryz.func152, Tryz.ntmps152
    go_wp2_with fail
    refine C1.out.mono ?_
    rintro e w1 ⟨rfl, rfl⟩
    go_wp2_with fail
    refine C2.out.mono ?_
    rintro e w1 ⟨rfl, rfl⟩
    go_wp2_with fail
    go_ret
    exact ⟨by simp, rfl⟩
  · rw [h] at c1
    have C1 := Lib.hid c1
    clear c1 c2 h
    go_enter Tryz.func152, Tryz.ntmps152
    go_wp2_with fail
    refine C1.out.mono ?_
    rintro e w1 ⟨rfl, rfl⟩
    go_wp2_with fail
    go_ret
    exact ⟨by simp, rfl⟩
def Flag (w : World) (g : Nat) (c : Bool) : Prop := RowB w g 4 #[.bool c]
theorem Flag.put {w : World} {g : Nat} {c : Bool} (h : Flag w g c) (d : Bool) : Flag (w.setCell ⟨g, 0, none⟩ (.bool d)) g d := RowB.put h 0 _
set_option maxHeartbeats 2000000 in
theorem leadc_any (n : Int) (g : Nat) (c : Bool) (w : World) (hf : Flag w g c) :
    Calls Tryz.prog 213 #[.int .u8 n, .pointer (some ⟨g, 0, none⟩)] w fun e w' => e = .returned (.bool (lGo c n)) ∧ Flag w' g (cmt c n) ∧ Below g w w' := by
  unfold lGo
  have hc : w.cell? ⟨g, 0, none⟩ = some (.bool c) := RowB.cell hf 0
  have hz : w.frozen? ⟨g, 0, none⟩ = false := RowB.thaw hf 0
  have hlt : g < w.heap.size := RowB.lt hf
  have HFl := Lib.hid hf
  clear hf
  by_cases h10 : n = 10
  · subst h10
    have F1 := Lib.hid (HFl.out.put false)
    have B1 := Lib.hid ((Below.refl g w).setCell (p := ⟨g, 0, none⟩) (Nat.le_refl _) (.bool false))
    have c1 := blank_any 10 (w.setCell ⟨g, 0, none⟩ (.bool false))
    have C1 := Lib.hid c1
    clear c1
    go_enter Tryz.func213, Tryz.ntmps213
    go_wp2_with fail
    refine C1.out.mono ?_
    rintro e w1 ⟨rfl, rfl⟩
    go_wp2_with fail
    go_ret
    exact ⟨by simp [cmt], F1.out, B1.out⟩
  have q1 : (n == 10) = false := by simpa using h10
  by_cases h35 : n = 35
  · subst h35
    have F1 := Lib.hid (HFl.out.put true)
    have B1 := Lib.hid ((Below.refl g w).setCell (p := ⟨g, 0, none⟩) (Nat.le_refl _) (.bool true))
    clear h10 q1
    go_enter Tryz.func213, Tryz.ntmps213
    go_wp2_with fail
    go_ret
    exact ⟨by simp [cmt], F1.out, B1.out⟩
  have q2 : (n == 35) = false := by simpa using h35
  have e1 : cmt c n = c := by simp [cmt, h10, h35]
  rw [e1]
  cases c
  · have c1 := blank_any n w
    have C1 := Lib.hid c1
    clear c1 h10 h35 e1
    go_enter Tryz.func213, Tryz.ntmps213
    go_wp2_with fail
    refine C1.out.mono ?_
    rintro e w1 ⟨rfl, rfl⟩
    go_wp2_with fail
    go_ret
    exact ⟨by simp, HFl.out, Below.refl _ _⟩
  · clear h10 h35 e1
    go_enter Tryz.func213, Tryz.ntmps213
    go_wp2_with fail
    go_ret
    exact ⟨by simp, HFl.out, Below.refl _ _⟩
set_option maxHeartbeats 2000000 in
theorem quotc_any (n : Int) (g : Nat) (c : Bool) (w : World) (hf : Flag w g c) :
    Calls Tryz.prog 243 #[.int .u8 n, .pointer (some ⟨g, 0, none⟩)] w fun e w' => e = .returned (.bool (qGo c n)) ∧ Flag w' g (sls c n) ∧ Below g w w' := by
  unfold qGo
  have hc : w.cell? ⟨g, 0, none⟩ = some (.bool c) := RowB.cell hf 0
  have hz : w.frozen? ⟨g, 0, none⟩ = false := RowB.thaw hf 0
  have hlt : g < w.heap.size := RowB.lt hf
  have HFl := Lib.hid hf
  clear hf
  have F1 := Lib.hid (HFl.out.put (sls c n))
  have B1 := Lib.hid ((Below.refl g w).setCell (p := ⟨g, 0, none⟩) (Nat.le_refl _) (.bool (sls c n)))
  by_cases h92 : n = 92
  · subst h92
    cases c
    all_goals
      go_enter Tryz.func243, Tryz.ntmps243
      go_wp2_with fail
      go_ret
      exact ⟨by simp, F1.out, B1.out⟩
  have q1 : (n == 92) = false := by simpa using h92
  have e1 : sls c n = false := by simp [sls, h92]
  rw [e1] at F1 B1 ⊢
  by_cases h34 : n = 34
  · subst h34
    clear h92 e1 q1
    cases c
    all_goals
      go_enter Tryz.func243, Tryz.ntmps243
      go_wp2_with fail
      go_ret
      exact ⟨by simp, F1.out, B1.out⟩
  · have q2 : (n != 34) = true := by simpa using h34
    have e2 : decide (n ≠ 34) = true := by simpa using h34
    rw [e2]
    clear h92 e1 h34 e2
    cases c
    all_goals
      go_enter Tryz.func243, Tryz.ntmps243
      go_wp2_with fail
      go_ret
      exact ⟨by simp, F1.out, B1.out⟩
def Far (st go : Bool → Int → Bool) (s : ByteArray) (k : Nat) (c : Bool) : Prop := runM st go false s.data.toList = k + runM st go c (s.data.toList.drop k)
theorem Far.first (st go : Bool → Int → Bool) (s : ByteArray) : Far st go s 0 false := by unfold Far; simp
theorem drop_cons' (T : ByteArray) (k : Nat) (h : k < T.size) : T.data.toList.drop k = T[k] :: T.data.toList.drop (k + 1) := by
  rw [List.drop_eq_getElem_cons (by simpa using h)]; rfl
theorem Far.next {st go : Bool → Int → Bool} {s : ByteArray} {k : Nat} {c : Bool} (h : Far st go s k c) (hk : k < s.size) (hg : go c s[k].toNat = true) : Far st go s (k + 1) (st c s[k].toNat) := by
  unfold Far at h ⊢
  rw [h, drop_cons' s k hk, runM_go hg]
  omega
theorem Far.stop {st go : Bool → Int → Bool} {s : ByteArray} {k : Nat} {c : Bool} (h : Far st go s k c) (hk : k < s.size) (hg : go c s[k].toNat = false) : runM st go false s.data.toList = k := by
  unfold Far at h
  rw [h, drop_cons' s k hk, runM_stop hg]
  rfl
theorem Far.done {st go : Bool → Int → Bool} {s : ByteArray} {c : Bool} (h : Far st go s s.size c) : runM st go false s.data.toList = s.size := by
  unfold Far at h
  rw [h, List.drop_of_length_le (by rw [len_list]; exact Nat.le_refl _)]
  rfl
set_option maxHeartbeats 4000000 in
theorem prefix_word (s : ByteArray) (hs : s.size ≤ 100000) (w : World) :
    Calls Tryz.prog 151 #[.string s, .func (.func 152) #[] #[]] w fun e w' => e = .returned (.int .i64 (runM wSt wGo false s.data.toList)) ∧ w = w' := by
  go_enter Tryz.func151, Tryz.ntmps151
  go_wp2_with fail
  go_loopg [8] s.size (fun kx x wr => ∃ (k : Nat) (c : Bool), x = .int .i64 k ∧ k ≤ s.size ∧ s.size - k ≤ kx ∧ Hid (Far wSt wGo s k c) ∧ Hid (w = wr))
  case atStart => exact ⟨0, false, rfl, by omega, by omega, Far.first _ _ s, rfl⟩
  case round =>
    obtain ⟨k, c, rfl, hk, hkx, HF, HW⟩ := hrel
    obtain rfl := HW.out
    by_cases hlt : k < s.size
    · have hlz : (k : Int) < (s.size : Int) := by omega
      have cc := wordc_any (s[k]'hlt).toNat c w
      cases hg : wGo c (s[k]'hlt).toNat
      · rw [hg] at cc
        have C := Lib.hid cc
        have HF2 := Lib.hid (HF.out.stop hlt hg)
        clear cc hg
        go_wp2_with fail
        refine C.out.mono ?_
        rintro e w1 ⟨rfl, rfl⟩
        go_wp2_with fail
        go_ret
        exact ⟨ri (congrArg (fun n : Nat => (n : Int)) HF2.out).symm, rfl⟩
      · rw [hg] at cc
        have C := Lib.hid cc
        have HN := Lib.hid (HF.out.next hlt hg)
        clear cc hg
        go_wp2_with fail
        refine C.out.mono ?_
        rintro e w1 ⟨rfl, rfl⟩
        go_wp2_with fail
        go_roundg (s.size - (k + 1))
        case measure => omega
        case rel => exact ⟨k + 1, _, by go_num, by omega, by omega, HN.out, rfl⟩
    · obtain rfl : k = s.size := by omega
      have hlz : ¬ (s.size : Int) < (s.size : Int) := by omega
      have HF2 := Lib.hid HF.out.done
      clear hlt
      go_wp2_with fail
      go_ret
      exact ⟨ri (congrArg (fun n : Nat => (n : Int)) HF2.out).symm, rfl⟩
set_option maxHeartbeats 4000000 in
theorem prefix_lead (s : ByteArray) (hs : s.size ≤ 100000) (g : Nat) (w : World) (hf : Flag w g false) :
    Calls Tryz.prog 151 #[.string s, .func (.func 213) #[] #[.pointer (some ⟨g, 0, none⟩)]] w fun e w' => e = .returned (.int .i64 (runM cmt lGo false s.data.toList)) ∧ Below g w w' := by
  have HFl := Lib.hid hf
  clear hf
  go_enter Tryz.func151, Tryz.ntmps151
  go_wp2_with fail
  go_loopg [8] s.size (fun kx x wr => ∃ (k : Nat) (c : Bool), x = .int .i64 k ∧ k ≤ s.size ∧ s.size - k ≤ kx ∧ Hid (Far cmt lGo s k c) ∧ Hid (Flag wr g c) ∧ Hid (Below g w wr))
  case atStart => exact ⟨0, false, rfl, by omega, by omega, Far.first _ _ s, HFl.out, Below.refl _ _⟩
  case round =>
    obtain ⟨k, c, rfl, hk, hkx, HF, HC, HB⟩ := hrel
    by_cases hlt : k < s.size
    · have hlz : (k : Int) < (s.size : Int) := by omega
      have cc := leadc_any (s[k]'hlt).toNat g c wr HC.out
      cases hg : lGo c (s[k]'hlt).toNat
      · rw [hg] at cc
        have C := Lib.hid cc
        have HF2 := Lib.hid (HF.out.stop hlt hg)
        clear cc hg
        go_wp2_with fail
        refine C.out.mono ?_
        rintro e w1 ⟨rfl, hfl, hb⟩
        have HC1 := Lib.hid hfl
        have HB1 := Lib.hid (HB.out.trans hb)
        clear hfl hb
        go_wp2_with fail
        go_ret
        exact ⟨ri (congrArg (fun n : Nat => (n : Int)) HF2.out).symm, HB1.out⟩
      · rw [hg] at cc
        have C := Lib.hid cc
        have HN := Lib.hid (HF.out.next hlt hg)
        clear cc hg
        go_wp2_with fail
        refine C.out.mono ?_
        rintro e w1 ⟨rfl, hfl, hb⟩
        have HC1 := Lib.hid hfl
        have HB1 := Lib.hid (HB.out.trans hb)
        clear hfl hb
        go_wp2_with fail
        go_roundg (s.size - (k + 1))
        case measure => omega
        case rel => exact ⟨k + 1, _, by go_num, by omega, by omega, HN.out, HC1.out, HB1.out⟩
    · obtain rfl : k = s.size := by omega
      have hlz : ¬ (s.size : Int) < (s.size : Int) := by omega
      have HF2 := Lib.hid HF.out.done
      clear hlt
      go_wp2_with fail
      go_ret
      exact ⟨ri (congrArg (fun n : Nat => (n : Int)) HF2.out).symm, HB.out⟩
set_option maxHeartbeats 4000000 in
theorem prefix_quot (s : ByteArray) (hs : s.size ≤ 100000) (g : Nat) (w : World) (hf : Flag w g false) :
    Calls Tryz.prog 151 #[.string s, .func (.func 243) #[] #[.pointer (some ⟨g, 0, none⟩)]] w fun e w' => e = .returned (.int .i64 (runM sls qGo false s.data.toList)) ∧ Below g w w' := by
  have HFl := Lib.hid hf
  clear hf
  go_enter Tryz.func151, Tryz.ntmps151
  go_wp2_with fail
  go_loopg [8] s.size (fun kx x wr => ∃ (k : Nat) (c : Bool), x = .int .i64 k ∧ k ≤ s.size ∧ s.size - k ≤ kx ∧ Hid (Far sls qGo s k c) ∧ Hid (Flag wr g c) ∧ Hid (Below g w wr))
  case atStart => exact ⟨0, false, rfl, by omega, by omega, Far.first _ _ s, HFl.out, Below.refl _ _⟩
  case round =>
    obtain ⟨k, c, rfl, hk, hkx, HF, HC, HB⟩ := hrel
    by_cases hlt : k < s.size
    · have hlz : (k : Int) < (s.size : Int) := by omega
      have cc := quotc_any (s[k]'hlt).toNat g c wr HC.out
      cases hg : qGo c (s[k]'hlt).toNat
      · rw [hg] at cc
        have C := Lib.hid cc
        have HF2 := Lib.hid (HF.out.stop hlt hg)
        clear cc hg
        go_wp2_with fail
        refine C.out.mono ?_
        rintro e w1 ⟨rfl, hfl, hb⟩
        have HC1 := Lib.hid hfl
        have HB1 := Lib.hid (HB.out.trans hb)
        clear hfl hb
        go_wp2_with fail
        go_ret
        exact ⟨ri (congrArg (fun n : Nat => (n : Int)) HF2.out).symm, HB1.out⟩
      · rw [hg] at cc
        have C := Lib.hid cc
        have HN := Lib.hid (HF.out.next hlt hg)
        clear cc hg
        go_wp2_with fail
        refine C.out.mono ?_
        rintro e w1 ⟨rfl, hfl, hb⟩
        have HC1 := Lib.hid hfl
        have HB1 := Lib.hid (HB.out.trans hb)
        clear hfl hb
        go_wp2_with fail
        go_roundg (s.size - (k + 1))
        case measure => omega
        case rel => exact ⟨k + 1, _, by go_num, by omega, by omega, HN.out, HC1.out, HB1.out⟩
    · obtain rfl : k = s.size := by omega
      have hlz : ¬ (s.size : Int) < (s.size : Int) := by omega
      have HF2 := Lib.hid HF.out.done
      clear hlt
      go_wp2_with fail
      go_ret
      exact ⟨ri (congrArg (fun n : Nat => (n : Int)) HF2.out).symm, HB.out⟩
set_option maxHeartbeats 1000000 in
theorem wlen_any (s : ByteArray) (hs : s.size ≤ 100000) (w : World) : Calls Tryz.prog 116 #[.string s] w fun e w' => e = .returned (.int .i64 (wLen s.data.toList)) ∧ w = w' := by
  have C := Lib.hid (prefix_word s hs w)
  go_enter Tryz.func116, Tryz.ntmps116
  go_wp2_with fail
  refine C.out.mono ?_
  rintro e w1 ⟨rfl, rfl⟩
  go_wp2_with fail
  go_ret
  exact ⟨rfl, rfl⟩
set_option maxHeartbeats 1000000 in
theorem llen_any (s : ByteArray) (hs : s.size ≤ 100000) (w : World) : Calls Tryz.prog 166 #[.string s] w fun e w' => e = .returned (.int .i64 (lLen s.data.toList)) ∧ Below w.heap.size w w' := by
  have hmf : ∀ (fn : Fn) (first cap : Array Value) (w : World), (Instr.makeFunc fn first cap).run Tryz.prog w = .ok (.func fn first cap) w := fun _ _ _ _ => rfl
  have C := Lib.hid (prefix_lead s hs w.heap.size (w.alloc (.cells #[.bool false] 4)) (RowB.new w 4 _))
  go_enter Tryz.func166, Tryz.ntmps166
  go_wp2_with fail
  refine C.out.mono ?_
  rintro e w1 ⟨rfl, hb⟩
  have HB := Lib.hid (((Below.refl _ w).alloc (Nat.le_refl _) _).trans hb)
  clear hb
  go_wp2_with fail
  go_ret
  exact ⟨rfl, HB.out⟩
end Go.Proofs.YthjflofcgdfekaaGreatDoor
