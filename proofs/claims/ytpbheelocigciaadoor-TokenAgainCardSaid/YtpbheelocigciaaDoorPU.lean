/- Contracts: strings read by package runes. -/
import Derived.Test.YtpbheelocigciaaDoorPQ
import Derived.OwnWalk
namespace Go.Proofs.YtpbheelocigciaaDoor
open Go.RowKit

/-- How far a string has been read, place by place. -/
def Rp (W : List UInt8) (k : Nat) (sl : Bool) (O : List UInt8) : Prop := um W false = (um (W.drop k) sl).map (O ++ ·)
theorem drop_cons (T : ByteArray) (k : Nat) (h : k < T.size) : T.data.toList.drop k = T[k] :: T.data.toList.drop (k + 1) := by
  rw [List.drop_eq_getElem_cons (by simpa using h)]; rfl
theorem Rp.first (W : List UInt8) : Rp W 0 false [] := by unfold Rp; simp
theorem Rp.mean {T : ByteArray} {k : Nat} {O : List UInt8} (h : Rp T.data.toList k true O) (hk : k < T.size) (hm : mb T[k] = true) : Rp T.data.toList (k + 1) false (O ++ [mn T[k]]) := by
  unfold Rp at h ⊢
  rw [drop_cons T k hk] at h
  exact um_pre h (um_sign _ hm)
theorem Rp.nomean {T : ByteArray} {k : Nat} {O : List UInt8} (h : Rp T.data.toList k true O) (hk : k < T.size) (hm : mb T[k] = false) : um T.data.toList false = none := by
  unfold Rp at h
  rw [h, drop_cons T k hk, um_nosign _ hm]
  rfl
theorem Rp.slash {T : ByteArray} {k : Nat} {O : List UInt8} (h : Rp T.data.toList k false O) (hk : k < T.size) (hb : T[k].toNat = 92) : Rp T.data.toList (k + 1) true O := by
  unfold Rp at h ⊢
  rw [h, drop_cons T k hk, u8_eq (by decide) hb]
  rw [show UInt8.ofNat 92 = 92 from rfl, um_slash]
theorem Rp.low {T : ByteArray} {k : Nat} {O : List UInt8} (h : Rp T.data.toList k false O) (hk : k < T.size) (hb : T[k].toNat < 32 ∨ T[k].toNat = 34) : um T.data.toList false = none := by
  unfold Rp at h
  rw [h, drop_cons T k hk, um_low _ (by rw [ne_eq, ← UInt8.toNat_inj]; intro e; rw [e] at hb; revert hb; decide) (by rw [UInt8.lt_iff_toNat_lt, ← UInt8.toNat_inj]; exact hb)]
  rfl
theorem Rp.byte {T : ByteArray} {k : Nat} {O : List UInt8} (h : Rp T.data.toList k false O) (hk : k < T.size) (hb : T[k].toNat ≠ 92) (hc : ¬ (T[k].toNat < 32 ∨ T[k].toNat = 34)) : Rp T.data.toList (k + 1) false (O ++ [T[k]]) := by
  unfold Rp at h ⊢
  rw [drop_cons T k hk] at h
  exact um_pre h (um_byte _ (by rw [ne_eq, ← UInt8.toNat_inj]; exact hb) (by rw [UInt8.lt_iff_toNat_lt, ← UInt8.toNat_inj]; exact hc))
theorem Rp.done {T : ByteArray} {O : List UInt8} {sl : Bool} (h : Rp T.data.toList T.size sl O) : um T.data.toList false = if sl = true then none else some O := by
  unfold Rp at h
  rw [List.drop_of_length_le (by rw [len_list]; exact Nat.le_refl _), um_end] at h
  rw [h]
  cases sl <;> simp

set_option maxHeartbeats 2000000 in
theorem unquote_bad (s : ByteArray) (w : World) (hs : s.size ≤ 100000) (h : s.size < 2 ∨ gb s 0 ≠ 34 ∨ gb s (s.size - 1) ≠ 34) :
    Calls Tryd.prog 23 #[.string s] w fun e w' => e = uq s.data.toList ∧ Below w.heap.size w w' := by
  have HU := Lib.hid (unq_bad s h)
  by_cases h1 : s.size < 2
  · have h1z : (s.size : Int) - 1 < 1 := by omega
    clear h
    go_enter Tryd.func23, Tryd.ntmps23
    go_wp2_with fail
    go_ret2
    exact ⟨uq_none HU.out, Below.refl _ _⟩
  have h1z : ¬ (s.size : Int) - 1 < 1 := by omega
  have g0 := gb_of s 0 (by omega)
  have g1 := gb_of s (s.size - 1) (by omega)
  by_cases h2 : gb s 0 = 34
  · have q0 : (((s[0]'(by omega)).toNat : Int) != 34) = false := by simp; omega
    have q1 : (((s[s.size - 1]'(by omega)).toNat : Int) != 34) = true := by simp; omega
    have hx : s.size - 1 < s.size := by omega
    clear h g0 g1 h2
    go_enter Tryd.func23, Tryd.ntmps23
    go_wp2_with fail
    go_ret2
    exact ⟨uq_none HU.out, Below.refl _ _⟩
  · have q0 : (((s[0]'(by omega)).toNat : Int) != 34) = true := by simp; omega
    have hx : 0 < s.size := by omega
    clear h g0 g1 h2
    go_enter Tryd.func23, Tryd.ntmps23
    go_wp2_with fail
    go_ret2
    exact ⟨uq_none HU.out, Below.refl _ _⟩

set_option maxHeartbeats 4000000 in
set_option maxRecDepth 100000 in
theorem unquote_good (s : ByteArray) (w : World) (hs : s.size ≤ 100000) (h2 : 2 ≤ s.size) (h0 : gb s 0 = 34) (h1 : gb s (s.size - 1) = 34) :
    Calls Tryd.prog 23 #[.string s] w fun e w' => e = uq s.data.toList ∧ Below w.heap.size w w' := by
  obtain ⟨i0, hi, hz0, hz1, hz2⟩ := info_parts info5
  have g0 := gb_of s 0 (by omega)
  have g1 := gb_of s (s.size - 1) (by omega)
  have q0 : (((s[0]'(by omega)).toNat : Int) != 34) = false := by simp; omega
  have q1 : (((s[s.size - 1]'(by omega)).toNat : Int) != 34) = false := by simp; omega
  have hx : s.size - 1 < s.size := by omega
  have HU := Lib.hid (unq_mid s h2 (by omega) (by omega))
  have h1z : ¬ (s.size : Int) - 1 < 1 := by omega
  clear h0 h1 g0 g1
  have hms := mid_size s
  have HM := Lib.hid hms
  clear hms
  go_enter Tryd.func23, Tryd.ntmps23
  go_wp2_with (at_make; refine wpList_make_own _ rfl _ _ 55 rfl w.heap.size 5 i0 (.int .u8 0) 1 Tryd.underlying55 hi hz0 hz1 .i64 .i64 _ (s.size - 1 - 1) rfl rfl rfl (by rw [hz2]; omega) (by unfold maxLen; omega) (Nat.le_refl _) ?_; intro w0 hown0 hgrow0)
  have hb0 : Below w.heap.size w w0 := (Below.refl _ _).grown hgrow0 (Nat.le_refl _) (fun j hj => by cases hj)
  obtain ⟨T, hT⟩ : ∃ T, s.extract 1 (s.size - 1) = T := ⟨_, rfl⟩
  have hmT : mid s = T := hT
  rw [hmT] at HM HU
  have hTs : T.size ≤ 100000 := by have := HM.out; omega
  have hsz : s.size - 1 - 1 = T.size := by have := HM.out; omega
  rw [hT, hsz]
  rw [hsz] at hown0
  clear q0 q1 hgrow0 hT hmT hsz HM
  go_wp2_with fail
  go_loopg [6, 7, 36] T.size (fun kx v b a wr => ∃ (k n : Nat) (sl : Bool) (O : List UInt8), b = .bool sl ∧ a = .int .i64 k ∧ k ≤ T.size ∧ T.size - k ≤ kx ∧ n ≤ k ∧ Hid (Rp T.data.toList k sl O) ∧ wr.ownsRow w.heap.size 5 1 v n (Lib.byteCells O) ∧ Below w.heap.size w wr)
  case atStart => exact ⟨0, 0, false, [], rfl, rfl, by omega, by omega, by omega, Rp.first _, hown0, hb0⟩
  case round =>
    clear hown0 hb0
    obtain ⟨k, n, sl, O, rfl, rfl, hk, hkx, hn, HR, hown, hnx⟩ := hrel
    have hbsz := hnx.size
    by_cases hlt : k < T.size
    · have hlz : (k : Int) < (T.size : Int) := by omega
      cases sl
      · by_cases h92 : (T[k]'hlt).toNat = 92
        · have c1 : (((T[k]'hlt).toNat : Int) == 92) = true := by simp; omega
          have HN := Lib.hid (HR.out.slash hlt h92)
          clear h92
          go_wp2
          go_roundg (T.size - (k + 1))
          case measure => omega
          case rel => exact ⟨k + 1, n, true, _, rfl, by go_num, by omega, by omega, by omega, HN.out, hown, hnx⟩
        have c1 : (((T[k]'hlt).toNat : Int) == 92) = false := by simp; omega
        by_cases h32 : (T[k]'hlt).toNat < 32
        · have c2 : ((T[k]'hlt).toNat : Int) < 32 := by omega
          have HF := Lib.hid (HR.out.low hlt (.inl h32))
          clear h92 h32
          go_wp2
          go_ret2
          exact ⟨uq_none (HU.out.trans HF.out), hnx⟩
        have c2 : ¬ ((T[k]'hlt).toNat : Int) < 32 := by omega
        by_cases h34 : (T[k]'hlt).toNat = 34
        · have c3 : (((T[k]'hlt).toNat : Int) == 34) = true := by simp; omega
          have HF := Lib.hid (HR.out.low hlt (.inr h34))
          clear h92 h32 h34
          go_wp2
          go_ret2
          exact ⟨uq_none (HU.out.trans HF.out), hnx⟩
        have c3 : (((T[k]'hlt).toNat : Int) == 34) = false := by simp; omega
        have HN := Lib.hid (HR.out.byte hlt h92 (by omega))
        clear h92 h32 h34
        have b3 : n + 1 ≤ maxLen := by unfold maxLen; omega
        have b4 : (n + 1) * 1 ≤ 140737488355328 := by omega
        have b5 : w.heap.size ≤ (wr.alloc (.cells #[.int .u8 (T[k]'hlt).toNat] 5)).heap.size := by simp; omega
        go_wp2_with (at_builtin; refine wpList_append_own _ rfl (.tmp 42) (.tmp 44) 55 rfl w.heap.size 5 i0 (.int .u8 0) 1 1 Tryd.underlying55 hi hz0 hz1 hz2 rfl (by decide) _ _ _ rfl (hown.alloc _) ⟨wr.heap.size, 0, none⟩ 1 1 [.int .u8 (T[k]'hlt).toNat] rfl rfl (cells_one _ _) (one1 _) b3 b4 b5 ?_)
        intro v' w1 hown' hgrow _
        have R2 := (hnx.alloc hbsz (.cells #[.int .u8 (T[k]'hlt).toNat] 5)).grown hgrow (by simp; omega) (fun j hj => (hown.lt j hj).1)
        have R1 : w1.ownsRow w.heap.size 5 1 v' (n + 1) (Lib.byteCells (O ++ [T[k]'hlt])) := by rw [Lib.byteCells_append]; exact hown'
        clear hown' hgrow hown hnx b3 b4 b5
        go_wp2
        go_roundg (T.size - (k + 1))
        case measure => omega
        case rel => exact ⟨k + 1, n + 1, false, _, rfl, by go_num, by omega, by omega, by omega, HN.out, R1, R2⟩
      · cases hm : mb (T[k]'hlt)
        · have HF := Lib.hid (HR.out.nomean hlt hm)
          have C := Lib.hid (mean_no (T[k]'hlt) wr hm)
          clear hm
          go_wp2_with fail
          refine C.out.mono ?_
          rintro e w1 ⟨rfl, rfl⟩
          go_wp2
          go_ret2
          exact ⟨uq_none (HU.out.trans HF.out), hnx⟩
        · have HN := Lib.hid (HR.out.mean hlt hm)
          have C := Lib.hid (mean_yes (T[k]'hlt) wr hm)
          clear hm
          go_wp2_with fail
          refine C.out.mono ?_
          rintro e w1 ⟨rfl, rfl⟩
          have b3 : n + 1 ≤ maxLen := by unfold maxLen; omega
          have b4 : (n + 1) * 1 ≤ 140737488355328 := by omega
          have b5 : w.heap.size ≤ (wr.alloc (.cells #[.int .u8 (mn (T[k]'hlt)).toNat] 5)).heap.size := by simp; omega
          go_wp2_with (at_builtin; refine wpList_append_own _ rfl (.tmp 55) (.tmp 57) 55 rfl w.heap.size 5 i0 (.int .u8 0) 1 1 Tryd.underlying55 hi hz0 hz1 hz2 rfl (by decide) _ _ _ rfl (hown.alloc _) ⟨wr.heap.size, 0, none⟩ 1 1 [.int .u8 (mn (T[k]'hlt)).toNat] rfl rfl (cells_one _ _) (one1 _) b3 b4 b5 ?_)
          intro v' w1 hown' hgrow _
          have R2 := (hnx.alloc hbsz (.cells #[.int .u8 (mn (T[k]'hlt)).toNat] 5)).grown hgrow (by simp; omega) (fun j hj => (hown.lt j hj).1)
          have R1 : w1.ownsRow w.heap.size 5 1 v' (n + 1) (Lib.byteCells (O ++ [mn (T[k]'hlt)])) := by rw [Lib.byteCells_append]; exact hown'
          clear hown' hgrow hown hnx b3 b4 b5
          go_wp2
          go_roundg (T.size - (k + 1))
          case measure => omega
          case rel => exact ⟨k + 1, n + 1, false, _, rfl, by go_num, by omega, by omega, by omega, HN.out, R1, R2⟩
    · obtain rfl : k = T.size := by omega
      have hlz : ¬ (T.size : Int) < (T.size : Int) := by omega
      have HF := Lib.hid HR.out.done
      clear hlt
      cases sl
      · have hcv := conv_own hown
        clear hown
        go_wp2
        go_ret2
        exact ⟨uq_some (O := ⟨O.toArray⟩) (HU.out.trans HF.out), hnx⟩
      · clear hown
        go_wp2
        go_ret2
        exact ⟨uq_none (HU.out.trans HF.out), hnx⟩
theorem unquote_any (s : ByteArray) (w : World) (hs : s.size ≤ 100000) :
    Calls Tryd.prog 23 #[.string s] w fun e w' => e = uq s.data.toList ∧ Below w.heap.size w w' := by
  by_cases h : s.size < 2 ∨ gb s 0 ≠ 34 ∨ gb s (s.size - 1) ≠ 34
  · exact unquote_bad s w hs h
  · exact unquote_good s w hs (by omega) (by omega) (by omega)
end Go.Proofs.YtpbheelocigciaaDoor
