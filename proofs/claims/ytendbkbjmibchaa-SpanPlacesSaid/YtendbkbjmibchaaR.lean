/- Contracts: the document's own answer on places (package whetstoneref01). -/
import Derived.Test.YtendbkbjmibchaaG
namespace Go.Proofs.Ytendbkbjmibchaa
open Go.RowKit

theorem lno_miss (s : ByteArray) (k : Nat) (h : nlAt s k = false) : lno s (k + 1) = lno s k := by
  unfold lno
  rw [fd_miss h]
theorem lno_hit (s : ByteArray) (k : Nat) (hk : k < s.size) (h : nlAt s k = true) : lno s (k + 1) = lno s k + 1 ∧ bg s (lno s k + 1) = k + 1 := by
  have e : fd s (k + 1) = fd s k ++ [(k : Int)] := by rw [fd, if_pos h]
  constructor
  · unfold lno
    rw [e]; simp
  · obtain ⟨r, hr, _⟩ := F_app s (k + 1) hk
    unfold bg lno
    rw [if_neg (by omega), Nat.add_sub_cancel, hr, e]
    simp [List.getD_eq_getElem?_getD, List.append_assoc]
theorem lno_zero (s : ByteArray) : lno s 0 = 0 := rfl

set_option maxHeartbeats 1000000 in
theorem rplace_in (s : ByteArray) (a : Int) (w : World) (hl : s.size ≤ 100000) (h0 : 0 ≤ a) (h1 : a ≤ s.size) :
    Calls Try.prog 17 #[.string s, .int .i64 a] w fun e w' => e = .returned (.tuple #[.int .i64 (lno s a.toNat), .int .i64 (a - bg s (lno s a.toNat)), .int .i64 0]) ∧ w = w' := by
  obtain ⟨n, rfl⟩ := Int.eq_ofNat_of_zero_le h0
  rw [Int.toNat_natCast]
  go_enter Try.func17, Try.ntmps17
  go_wp2_with fail
  go_loop [7, 8, 9] (fun l c i => ∃ k : Nat, k ≤ n ∧ i = .int .i64 k ∧ l = .int .i64 (lno s k) ∧ c = .int .i64 ((k : Int) - bg s (lno s k))) (fun _ _ i => n - (intOf i).toNat)
  case atStart => exact ⟨0, by omega, rfl, rfl, rfl⟩
  case round =>
    obtain ⟨k, hk, rfl, rfl, rfl⟩ := hrel
    by_cases hlt : k < n
    · have hks : k < s.size := by omega
      have hin := lno_in s k (by omega)
      have hle := lno_le s k (by omega)
      have hF := F_len s
      have hn := nlAt_of s k hks
      cases h10 : nlAt s k
      · rw [h10] at hn
        have hn' := hn.symm
        have HE := Lib.hid (lno_miss s k h10)
        clear hn h10
        go_wp2
        go_round
        case rel => exact ⟨k + 1, by omega, by go_num, by rw [HE.out], by rw [HE.out]; go_num⟩
        case measure => simp [intOf]; omega
      · rw [h10] at hn
        have hn' := hn.symm
        have HE := Lib.hid (lno_hit s k hks h10)
        clear hn h10
        go_wp2
        go_round
        case rel => exact ⟨k + 1, by omega, by go_num, by rw [HE.out.1]; go_num, by rw [HE.out.1, HE.out.2]; go_num⟩
        case measure => simp [intOf]; omega
    · obtain rfl : k = n := by omega
      go_wp2
      go_ret3
      exact ⟨rfl, rfl⟩

set_option maxHeartbeats 1000000 in
theorem rplace_out (s : ByteArray) (a : Int) (w : World) (h : a < 0 ∨ s.size < a) :
    Calls Try.prog 17 #[.string s, .int .i64 a] w fun e w' => e = .returned (.tuple #[.int .i64 0, .int .i64 0, .int .i64 6]) ∧ w = w' := by
  by_cases h0 : a < 0
  · clear h
    go_enter Try.func17, Try.ntmps17
    go_wp2
    go_ret3
    exact ⟨rfl, rfl⟩
  · have h1 : (s.size : Int) < a := by omega
    have h0' : 0 ≤ a := by omega
    clear h h0
    go_enter Try.func17, Try.ntmps17
    go_wp2
    go_ret3
    exact ⟨rfl, rfl⟩
end Go.Proofs.Ytendbkbjmibchaa
