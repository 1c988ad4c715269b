/- The law RunesQuotes returns true, whatever it is given. -/
import Derived.Test.YtpbheelocigciaaDoorAW
namespace Go.Proofs.YtpbheelocigciaaDoor
open Go.RowKit

set_option maxHeartbeats 1000000 in
theorem runesQuotes_far (s t : ByteArray) (w : World) (hT : Tabs w) (hs : (s.size : Int) ≤ 9223372036854775807) (ht : (t.size : Int) ≤ 9223372036854775807) (hl : 2000 < s.size ∨ 2000 < t.size) :
    Calls Tryd.prog 5 #[.string s, .string t] w fun e w' => e = .returned (.bool true) ∧ Below w.heap.size w w' := by
  have C := Lib.hid (awake_any w hT)
  clear hT
  by_cases h : 2000 < s.size
  · have hz : (s.size : Int) > 2000 := by omega
    clear hl
    go_enter Tryd.func5, Tryd.ntmps5
    go_wp2_with fail
    refine C.out.mono ?_
    rintro e w1 ⟨rfl, hb⟩
    have HB := Lib.hid hb
    clear hb
    go_wp2_with fail
    go_ret
    exact ⟨rfl, HB.out⟩
  · have hz : ¬ (s.size : Int) > 2000 := by omega
    have hy : (t.size : Int) > 2000 := by omega
    clear hl
    go_enter Tryd.func5, Tryd.ntmps5
    go_wp2_with fail
    refine C.out.mono ?_
    rintro e w1 ⟨rfl, hb⟩
    have HB := Lib.hid hb
    clear hb
    go_wp2_with fail
    go_ret
    exact ⟨rfl, HB.out⟩

set_option maxHeartbeats 2000000 in
theorem runesQuotes_near (s t : ByteArray) (w : World) (hT : Tabs w) (hs : s.size ≤ 2000) (ht : t.size ≤ 2000) :
    Calls Tryd.prog 5 #[.string s, .string t] w fun e w' => e = .returned (.bool true) ∧ Below w.heap.size w w' := by
  have c1 := unquote_any t w (by omega)
  have c2 := fun w => runquote_any t w (by omega)
  have hz : ¬ (s.size : Int) > 2000 := by omega
  have hy : ¬ (t.size : Int) > 2000 := by omega
  have hs' : s.size ≤ 100000 := by omega
  obtain ⟨x, n, hx⟩ : ∃ (x : ByteArray) (n : Int), uq t.data.toList = .returned (.tuple #[.string x, .int .i64 n]) := by
    unfold uq
    cases unq t.data.toList with
    | none => exact ⟨_, _, rfl⟩
    | some o => exact ⟨_, _, rfl⟩
  rw [hx] at c1 c2
  have C1 := Lib.hid c1
  have C2 := Lib.hid c2
  have HT := Lib.hid hT
  clear c1 c2 hx hT
  go_enter Tryd.func5, Tryd.ntmps5
  go_wp2_with fail
  refine C1.out.mono ?_
  rintro e w1 ⟨rfl, hb1⟩
  have HB1 := Lib.hid hb1
  have HT1 := Lib.hid (Utf8Tabs_below HT.out hb1)
  clear hb1
  go_wp2_with fail
  refine (C2.out _).mono ?_
  rintro e w2 ⟨rfl, rfl⟩
  go_wp2_with fail
  refine (awake_any _ HT1.out).mono ?_
  rintro e w2 ⟨rfl, hb2⟩
  have HB2 := Lib.hid (step_below HB1.out hb2)
  clear hb2
  go_wp2_with fail
  refine (quote_any s _ hs').mono ?_
  rintro e w3 ⟨rfl, hb3⟩
  have HB3 := Lib.hid (step_below HB2.out hb3)
  obtain ⟨q, hq⟩ : ∃ q, (⟨(quoL s.data.toList).toArray⟩ : ByteArray) = q := ⟨_, rfl⟩
  have c3 := fun w => rquote_any s w hs'
  rw [hq] at c3 ⊢
  have C3 := Lib.hid c3
  clear hb3 hq c3
  go_wp2_with fail
  refine (C3.out _).mono ?_
  rintro e w4 ⟨rfl, rfl⟩
  go_wp2_with fail
  go_ret
  exact ⟨by simp, HB3.out⟩
end Go.Proofs.YtpbheelocigciaaDoor
namespace Go.Proofs.YtpbheelocigciaaDoor
open Go.RowKit
theorem runesQuotes.walk (s t : ByteArray) (w : World) (hT : Tabs w) (hs : s.size ≤ maxLen) (ht : t.size ≤ maxLen) :
    Calls Tryd.prog 5 #[.string s, .string t] w fun e w' => e = .returned (.bool true) ∧ Below w.heap.size w w' := by
  unfold maxLen at hs ht
  by_cases h : 2000 < s.size ∨ 2000 < t.size
  · exact runesQuotes_far s t w hT (by omega) (by omega) h
  · exact runesQuotes_near s t w hT (by omega) (by omega)
end Go.Proofs.YtpbheelocigciaaDoor
