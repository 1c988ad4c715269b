/- Contracts: the column of a place. -/
import Derived.Test.YtpbheelocigciaaDoorRB
namespace Go.Proofs.YtpbheelocigciaaDoor
open Go.RowKit

/-- Where the line of a place begins. -/
def lst (s : ByteArray) : Nat → Nat
  | 0 => 0
  | k + 1 => if gb s k = 10 then k + 1 else lst s k
theorem lst_le (s : ByteArray) : ∀ k, lst s k ≤ k
  | 0 => Nat.le_refl _
  | k + 1 => by
    have := lst_le s k
    unfold lst
    split <;> omega
theorem lst_hit {s : ByteArray} {k : Nat} (h : gb s k = 10) : lst s (k + 1) = k + 1 := by simp [lst, h]
theorem lst_miss {s : ByteArray} {k : Nat} (h : gb s k ≠ 10) : lst s (k + 1) = lst s k := by simp [lst, h]

set_option maxHeartbeats 2000000 in
theorem column_in (s : ByteArray) (n : Nat) (w : World) (hs : s.size ≤ 100000) (hn : n ≤ s.size) :
    Calls Tryd.prog 18 #[.string s, .int .i64 n] w fun e w' => e = .returned (.tuple #[.int .i64 (cnt (s.extract (lst s n) n).data.toList), .int .i64 0]) ∧ Below w.heap.size w w' := by
  have h1 : ¬ ((n : Int) > (s.size : Int)) := by omega
  have hl := lst_le s n
  have c := fun w => count_any (s.extract (lst s n) n) w (by rw [ByteArray.size_extract]; omega)
  obtain ⟨C, hC⟩ : ∃ C, C = cnt (s.extract (lst s n) n).data.toList := ⟨_, rfl⟩
  rw [← hC] at c ⊢
  have HC := Lib.hid c
  clear c hC
  go_enter Tryd.func18, Tryd.ntmps18
  go_wp2_with fail
  go_loopg [6, 17] n (fun kx b a wr => ∃ k m : Nat, a = .int .i64 k ∧ b = .int .i64 m ∧ k ≤ n ∧ n - k ≤ kx ∧ m ≤ k ∧ Hid (m = lst s k) ∧ Hid (w = wr))
  case atStart => exact ⟨0, 0, rfl, rfl, by omega, by omega, by omega, rfl, rfl⟩
  case round =>
    obtain ⟨k, m, rfl, rfl, hk, hkx, hm, HM, HW⟩ := hrel
    obtain rfl := HW.out
    by_cases hlt : k < n
    · have hks : k < s.size := by omega
      have hlz : (k : Int) < (n : Int) := by omega
      have hg := gb_of s k hks
      have hb := gb_lt s k
      by_cases h10 : gb s k = 10
      · have hq : (((s[k]'hks).toNat : Int) == 10) = true := by simp; omega
        have HM1 := Lib.hid (lst_hit h10).symm
        clear hg hb h10
        go_wp2_with fail
        go_roundg (n - (k + 1))
        case measure => omega
        case rel => exact ⟨k + 1, k + 1, by go_num, by go_num, by omega, by omega, by omega, HM1.out, rfl⟩
      · have hq : (((s[k]'hks).toNat : Int) == 10) = false := by simp; omega
        have HM1 := Lib.hid (HM.out.trans (lst_miss h10).symm)
        clear hg hb h10
        go_wp2_with fail
        go_roundg (n - (k + 1))
        case measure => omega
        case rel => exact ⟨k + 1, m, by go_num, by go_num, by omega, by omega, by omega, HM1.out, rfl⟩
    · obtain rfl : k = n := by omega
      rw [← HM.out] at HC
      have hlz : ¬ (k : Int) < (k : Int) := by omega
      clear HM hl
      go_wp2_with fail
      refine (HC.out _).mono ?_
      rintro e w1 ⟨rfl, hb⟩
      have HB := Lib.hid hb
      clear hb
      go_wp2_with fail
      go_ret2
      exact ⟨rfl, HB.out⟩
set_option maxHeartbeats 2000000 in
theorem column_out (s : ByteArray) (a : Int) (w : World) (_hs : s.size ≤ 100000) (hn : a < 0 ∨ s.size < a) :
    Calls Tryd.prog 18 #[.string s, .int .i64 a] w fun e w' => e = .returned (.tuple #[.int .i64 0, .int .i64 6]) ∧ w = w' := by
  by_cases h : a < 0
  · go_enter Tryd.func18, Tryd.ntmps18
    go_wp2_with fail
    go_ret2
    exact ⟨rfl, rfl⟩
  · have h1 : a > (s.size : Int) := by omega
    clear hn
    go_enter Tryd.func18, Tryd.ntmps18
    go_wp2_with fail
    go_ret2
    exact ⟨rfl, rfl⟩
end Go.Proofs.YtpbheelocigciaaDoor
