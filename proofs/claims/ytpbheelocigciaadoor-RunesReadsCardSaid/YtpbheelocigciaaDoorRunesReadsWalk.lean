/- The law RunesReads returns true, whatever it is given. -/
import Derived.Test.YtpbheelocigciaaDoorAW
import Derived.Lib.QuietBelow
namespace Go.Proofs.YtpbheelocigciaaDoor
open Go.RowKit

set_option maxHeartbeats 1000000 in
set_option maxRecDepth 100000 in
theorem runesReads_far (s : ByteArray) (a : Int) (w : World) (hT : Tabs w) (hs : (s.size : Int) ≤ 9223372036854775807) (hl : 3000 < s.size) :
    Calls Tryd.prog 3 #[.string s, .int .i64 a] w fun e w' => e = .returned (.bool true) ∧ Below w.heap.size w w' := by
  have C := Lib.hid (awake_any w hT)
  have hz : (s.size : Int) > 3000 := by omega
  clear hT
  go_enter Tryd.func3, Tryd.ntmps3
  go_wp2_with fail
  refine C.out.mono ?_
  rintro e w1 ⟨rfl, hb⟩
  have HB := Lib.hid hb
  clear hb
  go_wp2_with fail
  go_ret
  exact ⟨rfl, HB.out⟩

/-- A place's line begins there. -/
theorem lst_stop {s : ByteArray} {k : Nat} (h : k = 0 ∨ gb s (k - 1) = 10) : lst s k = k := by
  rcases h with rfl | h
  · rfl
  · cases k with
    | zero => rfl
    | succ k => exact lst_hit h

set_option maxHeartbeats 4000000 in
set_option maxRecDepth 100000 in
theorem runesReads_out (s : ByteArray) (a : Int) (w : World) (hT : Tabs w) (hs : s.size ≤ 3000) (ha : a < 0 ∨ s.size < a) :
    Calls Tryd.prog 3 #[.string s, .int .i64 a] w fun e w' => e = .returned (.bool true) ∧ Below w.heap.size w w' := by
  have c1 := bad_any s w hT (by omega)
  have c2 := fun w => rbad_any s w (by omega)
  have c3 := fun w => count_any s w (by omega)
  have c4 := fun w => rcount_any s w (by omega)
  have c5 := fun w => next_out s a w (by omega) (by omega)
  have c6 := fun w => column_out s a w (by omega) ha
  have c7 := fun w => begins_out s a w (by omega) ha
  obtain ⟨b, hb⟩ : ∃ b, b = badI s.data.toList := ⟨_, rfl⟩
  obtain ⟨c, hc⟩ : ∃ c, c = cnt s.data.toList := ⟨_, rfl⟩
  rw [← hb] at c1 c2
  rw [← hc] at c3 c4
  have C1 := Lib.hid c1
  have C2 := Lib.hid c2
  have C3 := Lib.hid c3
  have C4 := Lib.hid c4
  have C5 := Lib.hid c5
  have C6 := Lib.hid c6
  have C7 := Lib.hid c7
  have HT := Lib.hid hT
  have hz : ¬ (s.size : Int) > 3000 := by omega
  clear c1 c2 c3 c4 c5 c6 c7 hb hc hT
  have hd : a < 0 ∨ (¬ a < 0 ∧ a > (s.size : Int)) := by omega
  clear ha
  rcases hd with h | ⟨h, h'⟩
  all_goals
    go_enter Tryd.func3, Tryd.ntmps3
    go_wp2_with fail
    refine C1.out.mono ?_
    rintro e w1 ⟨rfl, hb1⟩
    have HB1 := Lib.hid hb1
    have HT1 := Lib.hid (Utf8Tabs_below HT.out hb1)
    clear hb1
    go_wp2_with fail
    refine (C2.out _).mono ?_
    rintro e w2 ⟨rfl, rfl⟩
    go_wp2_with fail
    refine (C3.out _).mono ?_
    rintro e w2 ⟨rfl, hb2⟩
    have HB2 := Lib.hid (step_below HB1.out hb2)
    have HT2 := Lib.hid (Utf8Tabs_below HT1.out hb2)
    clear hb2
    go_wp2_with fail
    refine (C4.out _).mono ?_
    rintro e w3 ⟨rfl, rfl⟩
    go_wp2_with fail
    refine (C5.out _).mono ?_
    rintro e w3 ⟨rfl, rfl⟩
    go_wp2_with fail
    refine (C6.out _).mono ?_
    rintro e w3 ⟨rfl, rfl⟩
    go_wp2_with fail
    refine (awake_any _ HT2.out).mono ?_
    rintro e w3 ⟨rfl, hb3⟩
    have HB3 := Lib.hid (step_below HB2.out hb3)
    clear hb3
    go_wp2_with fail
    refine (C7.out _).mono ?_
    rintro e w4 ⟨rfl, rfl⟩
    go_wp2_with fail
    go_ret
    exact ⟨rfl, HB3.out⟩

set_option maxHeartbeats 4000000 in
set_option maxRecDepth 100000 in
theorem runesReads_in (s : ByteArray) (n : Nat) (w : World) (hT : Tabs w) (hs : s.size ≤ 3000) (hn : n ≤ s.size) :
    Calls Tryd.prog 3 #[.string s, .int .i64 n] w fun e w' => e = .returned (.bool true) ∧ Below w.heap.size w w' := by
  have c1 := bad_any s w hT (by omega)
  have c2 := fun w => rbad_any s w (by omega)
  have c3 := fun w => count_any s w (by omega)
  have c4 := fun w => rcount_any s w (by omega)
  have c6 := fun w => column_in s n w (by omega) hn
  have hle := lst_le s n
  obtain ⟨b, hb⟩ : ∃ b, b = badI s.data.toList := ⟨_, rfl⟩
  obtain ⟨c, hc⟩ : ∃ c, c = cnt s.data.toList := ⟨_, rfl⟩
  obtain ⟨m, hm⟩ : ∃ m, m = lst s n := ⟨_, rfl⟩
  rw [← hm] at c6 hle
  have c8 := fun w => rcount_any (s.extract m n) w (by rw [ByteArray.size_extract]; omega)
  obtain ⟨d, hd⟩ : ∃ d, d = cnt (s.extract m n).data.toList := ⟨_, rfl⟩
  rw [← hb] at c1 c2
  rw [← hc] at c3 c4
  rw [← hd] at c6 c8
  have C1 := Lib.hid c1
  have C2 := Lib.hid c2
  have C3 := Lib.hid c3
  have C4 := Lib.hid c4
  have C6 := Lib.hid c6
  have C8 := Lib.hid c8
  have HT := Lib.hid hT
  have HM := Lib.hid hm
  have hz : ¬ (s.size : Int) > 3000 := by omega
  have hz2 : decide (s.size < n) = false := by simp; omega
  -- what Next answers
  obtain ⟨r, k, hk⟩ : ∃ r k : Nat, r ≤ 1114111 ∧ (n < s.size → r = (dec (tl s n)).1 ∧ k = (dec (tl s n)).2) ∧ (n = s.size → r = 0 ∧ k = 0) ∧ k ≤ 4 := by
    by_cases h : n < s.size
    · exact ⟨_, _, dec_rune (tl s n), fun _ => ⟨rfl, rfl⟩, fun e => absurd e (by omega), dec_le4 _⟩
    · exact ⟨0, 0, by omega, fun e => absurd e h, fun _ => ⟨rfl, rfl⟩, by omega⟩
  have c5 : ∀ W, Tabs W → Calls Tryd.prog 17 #[.string s, .int .i64 n] W fun e w' => e = .returned (.tuple #[.int .i32 r, .int .i64 k]) ∧ Below W.heap.size W w' := fun W hW => by
    by_cases h : n < s.size
    · rw [(hk.2.1 h).1, (hk.2.1 h).2]
      exact next_in s n W hW (by omega) h
    · rw [(hk.2.2.1 (by omega)).1, (hk.2.2.1 (by omega)).2]
      exact (next_out s n W (by omega) (by omega)).mono fun e w' ⟨he, hw⟩ => ⟨he, hw ▸ Below.refl _ _⟩
  have C5 := Lib.hid c5
  have HK := Lib.hid hk
  clear c1 c2 c3 c4 c5 c6 c8 hb hc hd hT hm hk
  go_enter Tryd.func3, Tryd.ntmps3
  go_wp2_with fail
  refine C1.out.mono ?_
  rintro e w1 ⟨rfl, hb1⟩
  have HB1 := Lib.hid hb1
  have HT1 := Lib.hid (Utf8Tabs_below HT.out hb1)
  clear hb1
  go_wp2_with fail
  refine (C2.out _).mono ?_
  rintro e w2 ⟨rfl, rfl⟩
  go_wp2_with fail
  refine (C3.out _).mono ?_
  rintro e w2 ⟨rfl, hb2⟩
  have HB2 := Lib.hid (step_below HB1.out hb2)
  have HT2 := Lib.hid (Utf8Tabs_below HT1.out hb2)
  clear hb2
  go_wp2_with fail
  refine (C4.out _).mono ?_
  rintro e w3 ⟨rfl, rfl⟩
  go_wp2_with fail
  refine (C5.out _ HT2.out).mono ?_
  rintro e w3 ⟨rfl, hb3⟩
  have HB3 := Lib.hid (step_below HB2.out hb3)
  have HT3 := Lib.hid (Utf8Tabs_below HT2.out hb3)
  clear hb3
  go_wp2_with fail
  refine (C6.out _).mono ?_
  rintro e w4 ⟨rfl, hb4⟩
  have HB4 := Lib.hid (step_below HB3.out hb4)
  have HT4 := Lib.hid (Utf8Tabs_below HT3.out hb4)
  clear hb4
  go_wp2_with fail
  go_loopg [9] n (fun kx x wr => ∃ (j : Nat), x = .int .i64 j ∧ j ≤ n ∧ j ≤ kx ∧ m ≤ j ∧ Hid (lst s j = m) ∧ Hid (w4 = wr))
  case atStart => exact ⟨n, rfl, by omega, by omega, hle, HM.out.symm, rfl⟩
  case round =>
    obtain ⟨j, rfl, hj, hjx, hmj, HJ, HW⟩ := hrel
    obtain rfl := HW.out
    by_cases hgo : 0 < j ∧ gb s (j - 1) ≠ 10
    · obtain ⟨hj0, h10⟩ := hgo
      have hjs : j - 1 < s.size := by omega
      have hg := gb_of s (j - 1) hjs
      have c1 : (((s[j - 1]'hjs).toNat : Int) != 10) = true := by simp; omega
      have hj0z : (j : Int) > 0 := by omega
      have HN : Hid (lst s (j - 1) = m) := by
        show _ = _
        rw [← HJ.out]
        obtain ⟨i, rfl⟩ : ∃ i, j = i + 1 := ⟨j - 1, by omega⟩
        exact (lst_miss h10).symm
      have hm1 : m ≤ j - 1 := by
        have := lst_le s (j - 1)
        have := HN.out
        omega
      have EJ : (j : Int) - 1 = ((j - 1 : Nat) : Int) := by omega
      have HEJ := Lib.hid EJ
      clear h10 hg EJ
      go_wp2_with fail
      go_roundg (j - 1)
      case measure => omega
      case rel => exact ⟨j - 1, congrArg (Value.int .i64) HEJ.out, by omega, by omega, hm1, HN, rfl⟩
    · have hst : lst s j = j := lst_stop (by omega)
      obtain rfl : j = m := by rw [← HJ.out, hst]
      have hmz : (j : Int) ≤ (n : Int) := by omega
      by_cases hj0 : 0 < j
      case' pos =>
        have hjs : j - 1 < s.size := by omega
        have hg := gb_of s (j - 1) hjs
        have c1 : (((s[j - 1]'hjs).toNat : Int) != 10) = false := by simp; omega
        have hj0z : (j : Int) > 0 := by omega
        clear hgo hg hst
        go_wp2_with fail
      case' neg =>
        have hj0z : ¬ (j : Int) > 0 := by omega
        clear hgo hst
        go_wp2_with fail
      all_goals
        refine (C8.out _).mono ?_
        rintro e w5 ⟨rfl, rfl⟩
        by_cases hend : n = s.size
        · obtain ⟨rfl, rfl⟩ := HK.out.2.2.1 hend
          have he : ((n : Int) == (s.size : Int)) = true := by simp; omega
          have HE := Lib.hid hend
          clear hend
          go_wp2_with fail
          refine (awake_any _ HT4.out).mono ?_
          rintro e w6 ⟨rfl, hb6⟩
          have HB6 := Lib.hid (step_below HB4.out hb6)
          have C9 := Lib.hid (begins_end s n w6 (by omega) (by have := HE.out; omega))
          clear hb6
          go_wp2_with fail
          refine C9.out.mono ?_
          rintro e w7 ⟨rfl, rfl⟩
          go_wp2_with fail
          go_ret
          exact ⟨rfl, HB6.out⟩
        · have hns : n < s.size := by omega
          obtain ⟨hr, hk⟩ := HK.out.2.1 hns
          have he : ((n : Int) == (s.size : Int)) = false := by simp; omega
          have hbd : (r : Int) ≤ 1114111 := by have := HK.out.1; omega
          have c9 := fun w => rnext_any s n w (by omega) hns
          unfold trip at c9
          rw [← hr, ← hk] at c9
          have C9 := Lib.hid c9
          clear c9 hr hk
          go_wp2_with fail
          refine (C9.out _).mono ?_
          rintro e w6 ⟨rfl, rfl⟩
          go_wp2_with fail
          have c7 := fun w => begins_any s n w (by omega) hns
          have hg := gb_of s n hns
          have hlt := gb_lt s n
          by_cases q1 : gb s n < 128
          · have d1 : decide (((s[n]'hns).toNat : Int) < 128) = true := by simp; omega
            rw [show (!(gb s n / 64 == 2)) = true by simp; omega] at c7
            have C7 := Lib.hid c7
            clear c7 hg hlt q1
            refine wp_region_quiet_below (by kernel_rfl) (by kernel_rfl) ?_
            repeat (go_big_quiet_step (first
              | (go_at_call 12; exact Calls.regrown_of (awake_any _ (Utf8Tabs_below HT4.out (below_regrown _ _ _))))
              | (go_at_call 19; exact Calls.regrown_of ((C7.out _).mono fun e w' ⟨he, hw⟩ => ⟨he, hw ▸ Below.refl _ _⟩))))
            refine wpQuiet_nil ?_
            intro _ hw'
            obtain ⟨⟨dq, osq⟩, hw''⟩ := hw'
            subst hw''
            have HF := Lib.hid (step_below HB4.out (below_regrown w4 dq osq))
            go_wp2
            go_ret
            exact ⟨rfl, HF.out⟩
          by_cases q2 : gb s n < 192
          · have d1 : decide (((s[n]'hns).toNat : Int) < 128) = false := by simp; omega
            have d2 : decide (((s[n]'hns).toNat : Int) ≥ 192) = false := by simp; omega
            rw [show (!(gb s n / 64 == 2)) = false by simp; omega] at c7
            have C7 := Lib.hid c7
            clear c7 hg hlt q1 q2
            refine wp_region_quiet_below (by kernel_rfl) (by kernel_rfl) ?_
            repeat (go_big_quiet_step (first
              | (go_at_call 12; exact Calls.regrown_of (awake_any _ (Utf8Tabs_below HT4.out (below_regrown _ _ _))))
              | (go_at_call 19; exact Calls.regrown_of ((C7.out _).mono fun e w' ⟨he, hw⟩ => ⟨he, hw ▸ Below.refl _ _⟩))))
            refine wpQuiet_nil ?_
            intro _ hw'
            obtain ⟨⟨dq, osq⟩, hw''⟩ := hw'
            subst hw''
            have HF := Lib.hid (step_below HB4.out (below_regrown w4 dq osq))
            go_wp2
            go_ret
            exact ⟨rfl, HF.out⟩
          · have d1 : decide (((s[n]'hns).toNat : Int) < 128) = false := by simp; omega
            have d2 : decide (((s[n]'hns).toNat : Int) ≥ 192) = true := by simp; omega
            rw [show (!(gb s n / 64 == 2)) = true by simp; omega] at c7
            have C7 := Lib.hid c7
            clear c7 hg hlt q1 q2
            refine wp_region_quiet_below (by kernel_rfl) (by kernel_rfl) ?_
            repeat (go_big_quiet_step (first
              | (go_at_call 12; exact Calls.regrown_of (awake_any _ (Utf8Tabs_below HT4.out (below_regrown _ _ _))))
              | (go_at_call 19; exact Calls.regrown_of ((C7.out _).mono fun e w' ⟨he, hw⟩ => ⟨he, hw ▸ Below.refl _ _⟩))))
            refine wpQuiet_nil ?_
            intro _ hw'
            obtain ⟨⟨dq, osq⟩, hw''⟩ := hw'
            subst hw''
            have HF := Lib.hid (step_below HB4.out (below_regrown w4 dq osq))
            go_wp2
            go_ret
            exact ⟨rfl, HF.out⟩
theorem runesReads.walk (s : ByteArray) (a : Int) (w : World) (hT : Tabs w) (hs : s.size ≤ maxLen) :
    Calls Tryd.prog 3 #[.string s, .int .i64 a] w fun e w' => e = .returned (.bool true) ∧ Below w.heap.size w w' := by
  unfold maxLen at hs
  by_cases h : 3000 < s.size
  · exact runesReads_far s a w hT (by omega) h
  by_cases h2 : a < 0 ∨ s.size < a
  · exact runesReads_out s a w hT (by omega) h2
  · obtain ⟨n, rfl⟩ : ∃ n : Nat, a = n := ⟨a.toNat, by omega⟩
    exact runesReads_in s n w hT (by omega) (by omega)
end Go.Proofs.YtpbheelocigciaaDoor
