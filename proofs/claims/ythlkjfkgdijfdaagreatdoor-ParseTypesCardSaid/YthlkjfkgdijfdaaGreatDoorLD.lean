/- Contracts: the document's Lex: quoted strings. -/
import Derived.Test.YthlkjfkgdijfdaaGreatDoorLC
namespace Go.Proofs.YthlkjfkgdijfdaaGreatDoor
open Go.RowKit
def quotAt (s : ByteArray) (k : Nat) : Nat × Nat × Nat := if (unq ((tl s k).take (qLong (tl s k)))).isSome = true then (4, k + qLong (tl s k), 0) else (0, 0, 22)
theorem b_nat {b : UInt8} {n : Nat} (h : (b.toNat : Int) = n) (hn : n < 256) : b = n.toUInt8 := by
  apply UInt8.toNat_inj.1
  have : b.toNat = n := by omega
  rw [this]
  simp [Nat.toUInt8, Nat.mod_eq_of_lt hn]
theorem q_shut (s : ByteArray) (j : Nat) (h : j < s.size) (hb : ((s[j]'h).toNat : Int) = 34) : qLen (tl s j) = 0 := by
  rw [tl_cons s j h]; unfold qLen
  rw [runM_stop (go := qGo) (by unfold qGo; rw [hb]; rfl)]
theorem q_go (s : ByteArray) (j : Nat) (h : j < s.size) (hb : ((s[j]'h).toNat : Int) ≠ 34) (h2 : ((s[j]'h).toNat : Int) ≠ 92) : qLen (tl s j) = 1 + qLen (tl s (j + 1)) := by
  rw [tl_cons s j h]; unfold qLen
  rw [runM_go (go := qGo) (by unfold qGo; rw [decide_eq_true hb]; rfl)]
  have : sls false ((s[j]'h).toNat : Int) = false := by unfold sls; rw [decide_eq_false h2]; rfl
  rw [this]
theorem q_sl (s : ByteArray) (j : Nat) (h : j < s.size) (h2 : ((s[j]'h).toNat : Int) = 92) : min (j + 2) s.size + qLen (tl s (j + 2)) = j + qLen (tl s j) := by
  have e1 : qLen (tl s j) = 1 + runM sls qGo true (tl s (j + 1)) := by
    rw [tl_cons s j h]; unfold qLen
    rw [runM_go (go := qGo) (by unfold qGo; rw [h2]; rfl)]
    have : sls false ((s[j]'h).toNat : Int) = true := by unfold sls; rw [h2]; rfl
    rw [this]
  by_cases hj : j + 1 < s.size
  · have e2 : runM sls qGo true (tl s (j + 1)) = 1 + qLen (tl s (j + 2)) := by
      rw [tl_cons s (j + 1) hj]; unfold qLen
      rw [runM_go (go := qGo) (by unfold qGo; rw [Bool.or_true])]
      have : sls true ((s[j + 1]'hj).toNat : Int) = false := by unfold sls; rw [Bool.not_true, Bool.and_false]
      rw [this]
    omega
  · have e2 : tl s (j + 1) = [] := tl_end s _ (by omega)
    have e3 : tl s (j + 2) = [] := tl_end s _ (by omega)
    rw [e1, e2, e3]
    unfold qLen
    rw [runM, runM]
    omega
theorem q_lf (s : ByteArray) (j : Nat) (h : j < s.size) (hb : ((s[j]'h).toNat : Int) = 10) : 1 ≤ qLen (tl s j) := by
  rw [q_go s j h (by omega) (by omega)]; omega
theorem qLong_tl (s : ByteArray) (k : Nat) (hk : k < s.size) : qLong (tl s k) = min (qLen (tl s (k + 1)) + 2) (s.size - k) := by
  unfold qLong
  rw [tl_len]
  have : (tl s k).drop 1 = tl s (k + 1) := by rw [tl_cons s k hk, List.drop_one, List.tail_cons]
  rw [this]
  congr 1
  omega
theorem quot_lf (s : ByteArray) (k j : Nat) (hk : k < s.size) (hj : j < s.size) (hkj : k < j) (hb : ((s[j]'hj).toNat : Int) = 10) (hq : j + qLen (tl s j) = k + 1 + qLen (tl s (k + 1))) : quotAt s k = (0, 0, 22) := by
  have h1 := q_lf s j hj hb
  unfold quotAt
  have : unq ((tl s k).take (qLong (tl s k))) = none := by
    refine unq_lf (i := j - k) ?_
    rw [List.getElem?_take, if_pos (by rw [qLong_tl s k hk]; omega)]
    unfold tl
    rw [List.getElem?_drop, show k + (j - k) = j by omega]
    have hl : j < s.data.toList.length := by simpa using hj
    rw [List.getElem?_eq_getElem hl]
    congr 1
    have := b_nat (b := s[j]'hj) (n := 10) hb (by decide)
    rw [show s.data.toList[j] = s[j]'hj from rfl, this]
    rfl
  rw [this, if_neg (by simp)]
theorem quot_open (s : ByteArray) (k : Nat) (hk : k < s.size) (h34 : ((s[k]'hk).toNat : Int) = 34) (hq : s.size = k + 1 + qLen (tl s (k + 1))) : quotAt s k = (0, 0, 22) := by
  unfold quotAt
  have e : (tl s k).take (qLong (tl s k)) = 34 :: tl s (k + 1) := by
    rw [qLong_tl s k hk, List.take_of_length_le (by rw [tl_len]; omega), tl_cons s k hk]
    congr 1
    exact b_nat (n := 34) h34 (by decide)
  rw [e, unq_open (by rw [tl_len]; show qLen _ = _; omega), if_neg (by simp)]
theorem quot_shut (s : ByteArray) (k j : Nat) (hk : k < s.size) (hj : j < s.size) (_hkj : k < j) (hb : ((s[j]'hj).toNat : Int) = 34) (hq : j + qLen (tl s j) = k + 1 + qLen (tl s (k + 1))) : quotAt s k = if (unq (s.extract k (j + 1)).data.toList).isSome = true then (4, j + 1, 0) else (0, 0, 22) := by
  have h1 := q_shut s j hj hb
  unfold quotAt
  have e : qLong (tl s k) = j + 1 - k := by rw [qLong_tl s k hk]; omega
  have e2 : (s.extract k (j + 1)).data.toList = (tl s k).take (j + 1 - k) := by
    have := ext_tl s k (j + 1 - k)
    rw [show k + (j + 1 - k) = j + 1 by omega] at this
    exact this
  rw [e, e2, show k + (j + 1 - k) = j + 1 by omega]

set_option maxHeartbeats 4000000 in
set_option maxRecDepth 100000 in
theorem one_quote (s : ByteArray) (k : Nat) (w : World) (hs : s.size ≤ 99998) (hk : k < s.size) (_hl : letN ((s[k]'hk).toNat : Int) = false) (_hd : digN ((s[k]'hk).toNat : Int) = false) (hq : ((s[k]'hk).toNat : Int) = 34) : Calls Tryz.prog 33 #[.string s, .int .i64 k] w fun e w' => e = tri (quotAt s k) ∧ Below w.heap.size w w' := by
  have B0 := Lib.hid (Below.refl w.heap.size w)
  have HQ := Lib.hid hq
  obtain ⟨x, hx⟩ : ∃ x, x = quotAt s k := ⟨_, rfl⟩
  rw [← hx]
  have HX := Lib.hid hx
  clear hx
  go_enter Tryz.func33, Tryz.ntmps33
  go_wp2_with fail
  refine (rletter_any _ _).mono ?_
  rintro e w1 ⟨rfl, rfl⟩
  go_wp2_with fail
  refine (rdigit_any _ _).mono ?_
  rintro e w1 ⟨rfl, rfl⟩
  go_wp2_with fail
  go_loopg [7] (s.size + 2) (fun kx v wr => ∃ j : Nat, v = .int .i64 j ∧ k < j ∧ j ≤ s.size + 1 ∧ s.size + 1 - j ≤ kx ∧ Hid (min j s.size + qLen (tl s j) = k + 1 + qLen (tl s (k + 1))) ∧ Hid (w = wr))
  case atStart => exact ⟨k + 1, by go_num, by omega, by omega, by omega, by unfold Hid; omega, rfl⟩
  case round =>
    obtain ⟨j, rfl, hkj, hj, hkx, HI, HB⟩ := hrel
    obtain rfl := HB.out
    by_cases hlt : j < s.size
    · have HI2 : Hid (j + qLen (tl s j) = k + 1 + qLen (tl s (k + 1))) := by have := HI.out; unfold Hid; omega
      by_cases h34 : ((s[j]'hlt).toNat : Int) = 34
      · have m10 : (((s[j]'hlt).toNat : Int) == 10) = false := by rw [beq_eq_false_iff_ne]; omega
        have hge : ¬ (j : Int) ≥ (s.size : Int) := by omega
        have HS := Lib.hid (quot_shut s k j hk hlt hkj h34 HI2.out)
        go_wp2_with fail
        obtain ⟨T, hT⟩ : ∃ T, T = s.extract k (j + 1) := ⟨_, rfl⟩
        rw [← hT]
        have HS2 : Hid (x = if (unq T.data.toList).isSome = true then (4, j + 1, 0) else (0, 0, 22)) := by
          unfold Hid; rw [HX.out, hT]; exact HS.out
        have hTs : T.size ≤ 100000 := by rw [hT, ByteArray.size_extract]; omega
        clear hT
        refine (runquote_any _ _ hTs).mono ?_
        rintro e w2 ⟨rfl, rfl⟩
        cases hu : unq T.data.toList with
        | some o =>
          have hue : uq T.data.toList = .returned (.tuple #[.string ⟨o.toArray⟩, .int .i64 0]) := by unfold uq; rw [hu]
          have HXX : Hid (x = (4, j + 1, 0)) := by unfold Hid; rw [HS2.out, hu]; rfl
          rw [hue]
          clear hue hu
          go_wp2_with fail
          go_ret3
          exact ⟨tri_eq (a := 4) (b := j + 1) (c := 0) HXX.out, B0.out⟩
        | none =>
          have hue : uq T.data.toList = .returned (.tuple #[.string ⟨#[]⟩, .int .i64 22]) := by unfold uq; rw [hu]
          have HXX : Hid (x = (0, 0, 22)) := by unfold Hid; rw [HS2.out, hu]; rfl
          rw [hue]
          clear hue hu
          go_wp2_with fail
          go_ret3
          exact ⟨tri_eq (a := 0) (b := 0) (c := 22) HXX.out, B0.out⟩
      · have m34 : (((s[j]'hlt).toNat : Int) == 34) = false := by rw [beq_eq_false_iff_ne]; exact h34
        by_cases h10 : ((s[j]'hlt).toNat : Int) = 10
        · have hge : ¬ (j : Int) ≥ (s.size : Int) := by omega
          have HXX : Hid (x = (0, 0, 22)) := by unfold Hid; rw [HX.out]; exact quot_lf s k j hk hlt hkj h10 HI2.out
          clear h34
          go_wp2_with fail
          go_ret3
          exact ⟨tri_eq (a := 0) (b := 0) (c := 22) HXX.out, B0.out⟩
        · have m10 : (((s[j]'hlt).toNat : Int) == 10) = false := by rw [beq_eq_false_iff_ne]; exact h10
          by_cases h92 : ((s[j]'hlt).toNat : Int) = 92
          · have HI3 : Hid (min (j + 2) s.size + qLen (tl s (j + 2)) = k + 1 + qLen (tl s (k + 1))) := by
              unfold Hid; rw [q_sl s j hlt h92]; exact HI2.out
            clear h34 h10
            go_wp2_with fail
            go_roundg (s.size + 1 - (j + 2))
            case measure => omega
            case rel => exact ⟨j + 2, by go_num, by omega, by omega, by omega, HI3.out, rfl⟩
          · have m92 : (((s[j]'hlt).toNat : Int) == 92) = false := by rw [beq_eq_false_iff_ne]; exact h92
            have p34 : (((s[j]'hlt).toNat : Int) != 34) = true := by rw [bne_iff_ne]; exact h34
            have p10 : (((s[j]'hlt).toNat : Int) != 10) = true := by rw [bne_iff_ne]; exact h10
            have HI3 : Hid (min (j + 1) s.size + qLen (tl s (j + 1)) = k + 1 + qLen (tl s (k + 1))) := by
              have h1 := q_go s j hlt h34 h92
              have h2 := HI2.out
              unfold Hid; omega
            clear h34 h10 h92
            go_wp2_with fail
            go_roundg (s.size + 1 - (j + 1))
            case measure => omega
            case rel => exact ⟨j + 1, by go_num, by omega, by omega, by omega, HI3.out, rfl⟩
    · have hnl : ¬ (j : Int) < (s.size : Int) := by omega
      have hge : (j : Int) ≥ (s.size : Int) := by omega
      have HXX : Hid (x = (0, 0, 22)) := by
        unfold Hid; rw [HX.out]
        refine quot_open s k hk HQ.out ?_
        have := HI.out
        rw [tl_end s j (by omega)] at this
        have h0 : qLen [] = 0 := by unfold qLen; rw [runM]
        omega
      go_wp2_with fail
      go_ret3
      exact ⟨tri_eq (a := 0) (b := 0) (c := 22) HXX.out, B0.out⟩
end Go.Proofs.YthlkjfkgdijfdaaGreatDoor
