/- Contracts: the library's binary search over whole numbers. -/
import Derived.Test.YtendbkbjmibchaaA
namespace Go.Proofs.Ytendbkbjmibchaa
open Go.RowKit

def Found (xs : List Int) (a : Int) (w : World) (e : Ending) (w' : World) : Prop :=
  ∃ (k : Nat) (b : Bool), e = .returned (.tuple #[.int .i64 k, .bool b]) ∧ k ≤ xs.length ∧ (∀ j, j < k → xs.getD j 0 < a) ∧ (∀ j, k ≤ j → j < xs.length → a ≤ xs.getD j 0) ∧ w = w'

set_option maxHeartbeats 400000 in
theorem bs_any (A : Option Addr) (xs : List Int) (cap : Nat) (a : Int) (w : World) (hx : Ints w w.heap.size A xs) (hl : xs.length ≤ 100000)
    (hs : ∀ i j, i ≤ j → j < xs.length → xs.getD i 0 ≤ xs.getD j 0) :
    Calls Try.prog 60 #[.slice A xs.length cap, .int .i64 a] w (Found xs a w) := by
  have Hx := Lib.hid hx
  have Hs := Lib.hid hs
  clear hx hs
  go_enter Try.func60, Try.ntmps60
  go_wp2
  go_loop [7, 8] (fun u v => ∃ i j : Nat, i ≤ j ∧ j ≤ xs.length ∧ u = .int .i64 i ∧ v = .int .i64 j ∧ (∀ t, t < i → xs.getD t 0 < a) ∧ (∀ t, j ≤ t → t < xs.length → a ≤ xs.getD t 0)) (fun u v => (intOf v - intOf u).toNat)
  case atStart => exact ⟨0, xs.length, by omega, by omega, rfl, rfl, by omega, by omega⟩
  case round =>
    obtain ⟨i, j, hij, hjl, rfl, rfl, h1, h2⟩ := hrel
    have H1 := Lib.hid h1
    have H2 := Lib.hid h2
    clear h1 h2
    by_cases hlt : i < j
    · obtain ⟨b, rfl, hb, hc⟩ := Hx.out (by omega)
      obtain ⟨x, hxx⟩ : ∃ x, x = xs.getD ((i + j) / 2) 0 := ⟨_, rfl⟩
      have hcm := hc ((i + j) / 2) (by omega)
      rw [← hxx] at hcm
      have HXX := Lib.hid hxx
      clear hc hxx hb
      by_cases hxa : x < a
      · go_wp2_with (go_at_call 68; refine (less_any _ _ _).mono ?_; rintro e w' ⟨rfl, rfl⟩)
        go_round
        case rel => exact ⟨(i + j) / 2 + 1, j, by omega, by omega, by go_num, rfl, fun t ht => by
          rcases Nat.lt_or_ge t i with h | h
          · exact H1.out t h
          · have := Hs.out t ((i + j) / 2) (by omega) (by omega)
            rw [← HXX.out] at this
            omega, H2.out⟩
        case measure => simp [intOf]; omega
      · go_wp2_with (go_at_call 68; refine (less_any _ _ _).mono ?_; rintro e w' ⟨rfl, rfl⟩)
        go_round
        case rel => exact ⟨i, (i + j) / 2, by omega, by omega, rfl, by go_num, H1.out, fun t ht hl => by
            have := Hs.out ((i + j) / 2) t (by omega) (by omega)
            rw [← HXX.out] at this
            omega⟩
        case measure => simp [intOf]; omega
    · obtain rfl : i = j := by omega
      by_cases hin : i < xs.length
      · obtain ⟨b, rfl, hb, hc⟩ := Hx.out (by omega)
        obtain ⟨x, hxx⟩ : ∃ x, x = xs.getD i 0 := ⟨_, rfl⟩
        have hcm := hc i (by omega)
        rw [← hxx] at hcm
        have HXX := Lib.hid hxx
        clear hc hxx hb
        go_wp2_with (go_at_call 69; refine (snan_any _ _).mono ?_; rintro e w' ⟨rfl, rfl⟩)
        all_goals
          go_ret2
          exact ⟨i, _, rfl, by omega, H1.out, H2.out, rfl⟩
      · have hd : decide ((i : Int) < (xs.length : Int)) = false := by simp; omega
        go_wp2
        go_ret2
        exact ⟨i, _, rfl, by omega, H1.out, H2.out, rfl⟩
end Go.Proofs.Ytendbkbjmibchaa
