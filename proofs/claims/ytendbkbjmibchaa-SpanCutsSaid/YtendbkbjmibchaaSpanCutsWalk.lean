/- The law SpanCuts returns true, whatever it is given. -/
import Derived.Test.YtendbkbjmibchaaR
namespace Go.Proofs.Ytendbkbjmibchaa
open Go.RowKit

theorem cells2 {w : World} {g t : Nat} {x y : Value} (h : RowB w g t #[x, y]) : w.cell? ⟨g, 0, none⟩ = some x ∧ w.cell? ⟨g, 1, none⟩ = some y := ⟨h.cell 0, h.cell 1⟩
theorem RowB.at_ (w : World) (t : TypeId) (cs : Array Value) {g : Nat} (h : g = w.heap.size) : RowB (w.alloc (.cells cs t)) g t cs := by subst h; exact RowB.new w t cs

theorem lines_none (w : World) : Calls Try.prog 18 #[.agg #[.string ⟨#[]⟩, .slice none 0 0]] w fun e w' => e = .returned (.int .i64 1) ∧ Below w.heap.size w w' :=
  (lines_any ⟨#[]⟩ none 0 w (by decide)).mono fun _ _ h => h
theorem len_none (w : World) : Calls Try.prog 19 #[.agg #[.string ⟨#[]⟩, .slice none 0 0]] w fun e w' => e = .returned (.int .i64 0) ∧ Below w.heap.size w w' :=
  (len_any ⟨#[]⟩ none 0 w).mono fun _ _ h => h

set_option maxHeartbeats 2000000 in
theorem spanCuts_far (s : ByteArray) (f t : Int) (w : World) (hm : (s.size : Int) ≤ 9223372036854775807) (hl : 3000 < s.size) :
    Calls Try.prog 6 #[.string s, .int .i64 f, .int .i64 t] w fun e w' => e = .returned (.bool true) ∧ Below w.heap.size w w' := by
  have hl' : (3000 : Int) < (s.size : Int) := by omega
  go_enter Try.func6, Try.ntmps6
  go_wp2_with fail
  refine (awake_any _).mono ?_
  rintro e w1 ⟨rfl, hb⟩
  have HB := Lib.hid hb
  clear hb
  go_wp2
  go_ret
  exact ⟨rfl, HB.out⟩

set_option maxRecDepth 100000 in
set_option maxHeartbeats 2000000 in
theorem spanCuts_out (s : ByteArray) (f t : Int) (w : World) (hl : s.size ≤ 3000) (hn : ¬ (0 ≤ f ∧ f ≤ t ∧ t ≤ s.size)) :
    Calls Try.prog 6 #[.string s, .int .i64 f, .int .i64 t] w fun e w' => e = .returned (.bool true) ∧ Below w.heap.size w w' := by
  have HN := Lib.hid hn
  clear hn
  go_enter Try.func6, Try.ntmps6
  go_wp2_with fail
  refine (of_any s _ (by omega)).mono ?_
  rintro e w1 ⟨A, cap, rfl, hi, hb⟩
  have HR1 := Lib.hid ((RowB.new w1 25 #[.string s, .slice A (F s).length cap]).alloc (.cells #[.int .i64 f, .int .i64 t] 44))
  have HS1 := Lib.hid (RowB.at_ (w1.alloc (.cells #[.string s, .slice A (F s).length cap] 25)) 44 #[.int .i64 f, .int .i64 t] (by simp : w1.heap.size + 1 = _))
  have HB1 := Lib.hid ((hb.alloc hb.size (.cells #[.string s, .slice A (F s).length cap] 25)).alloc (by have := hb.size; simp; omega) (.cells #[.int .i64 f, .int .i64 t] 44))
  clear hi hb
  go_wp2_with fail
  refine (cut_out s A cap f t _ HN.out).mono ?_
  rintro e w2 ⟨rfl, hb⟩
  have HR2 := Lib.hid (HR1.out.below hb HR1.out.lt)
  have HS2 := Lib.hid (HS1.out.below hb HS1.out.lt)
  have HB2 := Lib.hid (HB1.out.trans (hb.mono HB1.out.size))
  obtain ⟨q0, q1⟩ := cells2 HR2.out
  obtain ⟨q2, q3⟩ := cells2 HS2.out
  clear hb
  go_wp2_with fail
  refine (touched_out s A cap f t _ HN.out).mono ?_
  rintro e w3 ⟨rfl, hb⟩
  have HS3 := Lib.hid (HS2.out.below hb HS2.out.lt)
  have HB3 := Lib.hid (HB2.out.trans (hb.mono HB2.out.size))
  clear hb q0 q1 q2 q3
  obtain ⟨p2, p3⟩ := cells2 HS3.out
  by_cases g1 : f < 0
  case' neg =>
    by_cases g2 : t < f
    case' neg =>
      have g3 : (s.size : Int) < t := by have := HN.out; omega
      have g2' : f ≤ t := by omega
      clear g2
    have g1' : 0 ≤ f := by omega
    clear g1
  all_goals
    go_wp2_with fail
    refine (awake_any _).mono ?_
    rintro e w4 ⟨rfl, hb⟩
    have HS4 := Lib.hid (HS3.out.below hb HS3.out.lt)
    have HB4 := Lib.hid (HB3.out.trans (hb.mono HB3.out.size))
    clear hb
    obtain ⟨r2, r3⟩ := cells2 HS4.out
    go_wp2_with fail
    refine (sound_any f t s.size _).mono ?_
    rintro e w5 ⟨rfl, hb⟩
    rw [show (decide (0 ≤ f) && decide (f ≤ t) && decide (t ≤ (s.size : Int))) = false by have := HN.out; simp; omega]
    have HB5 := Lib.hid (HB4.out.trans (hb.mono HB4.out.size))
    clear hb
    go_wp2
    go_ret
    exact ⟨rfl, HB5.out⟩

set_option maxRecDepth 100000 in
set_option maxHeartbeats 4000000 in
theorem spanCuts_in (s : ByteArray) (f t : Int) (w : World) (hl : s.size ≤ 3000) (h0 : 0 ≤ f) (h1 : f ≤ t) (h2 : t ≤ s.size) :
    Calls Try.prog 6 #[.string s, .int .i64 f, .int .i64 t] w fun e w' => e = .returned (.bool true) ∧ Below w.heap.size w w' := by
  go_enter Try.func6, Try.ntmps6
  go_wp2_with fail
  refine (of_any s _ (by omega)).mono ?_
  rintro e w1 ⟨A, cap, rfl, hi, hb⟩
  have HI1 := Lib.hid (((hi.alloc (Nat.le_refl _) (.cells #[.string s, .slice A (F s).length cap] 25)).alloc (by simp) (.cells #[.int .i64 f, .int .i64 t] 44)).more (by simp; omega : w1.heap.size ≤ ((w1.alloc (.cells #[.string s, .slice A (F s).length cap] 25)).alloc (.cells #[.int .i64 f, .int .i64 t] 44)).heap.size))
  have HR1 := Lib.hid ((RowB.new w1 25 #[.string s, .slice A (F s).length cap]).alloc (.cells #[.int .i64 f, .int .i64 t] 44))
  have HS1 := Lib.hid (RowB.at_ (w1.alloc (.cells #[.string s, .slice A (F s).length cap] 25)) 44 #[.int .i64 f, .int .i64 t] (by simp : w1.heap.size + 1 = _))
  have HB1 := Lib.hid ((hb.alloc hb.size (.cells #[.string s, .slice A (F s).length cap] 25)).alloc (by have := hb.size; simp; omega) (.cells #[.int .i64 f, .int .i64 t] 44))
  clear hi hb
  go_wp2_with fail
  refine (cut_in s A cap f t _ h0 h1 h2).mono ?_
  rintro e w2 ⟨rfl, hb⟩
  have HI2 := Lib.hid ((HI1.out.below hb).more hb.size)
  have HR2 := Lib.hid (HR1.out.below hb HR1.out.lt)
  have HS2 := Lib.hid (HS1.out.below hb HS1.out.lt)
  have HB2 := Lib.hid (HB1.out.trans (hb.mono HB1.out.size))
  obtain ⟨q0, q1⟩ := cells2 HR2.out
  obtain ⟨q2, q3⟩ := cells2 HS2.out
  clear hb
  go_wp2_with fail
  refine (touched_in s A cap f t _ (by omega) HI2.out h0 h1 h2).mono ?_
  rintro e w3 ⟨rfl, hb⟩
  have HS3 := Lib.hid (HS2.out.below hb HS2.out.lt)
  have HB3 := Lib.hid (HB2.out.trans (hb.mono HB2.out.size))
  clear hb q0 q1 q2 q3
  obtain ⟨p2, p3⟩ := cells2 HS3.out
  by_cases hlt : f < t
  case' pos =>
    rw [show lastOf f t = t - 1 by unfold lastOf; rw [if_pos hlt]]
  case' neg =>
    rw [show lastOf f t = f by unfold lastOf; rw [if_neg hlt]]
  all_goals
    go_wp2_with fail
    refine (rplace_in s f _ (by omega) h0 (by omega)).mono ?_
    rintro e w4 ⟨rfl, rfl⟩
    go_wp2_with fail
    refine (rplace_in s _ _ (by omega) (by omega) (by omega)).mono ?_
    rintro e w4 ⟨rfl, rfl⟩
    go_wp2_with fail
    refine (awake_any _).mono ?_
    rintro e w4 ⟨rfl, hb⟩
    have HS4 := Lib.hid ((HS3.out.alloc (.cells #[.string ⟨#[]⟩, .slice none 0 0] 25)).below hb (HS3.out.alloc (.cells #[.string ⟨#[]⟩, .slice none 0 0] 25)).lt)
    have HT4 := Lib.hid ((RowB.new w3 25 #[.string ⟨#[]⟩, .slice none 0 0]).below hb (by simp))
    have HB4 := Lib.hid ((HB3.out.alloc HB3.out.size (.cells #[.string ⟨#[]⟩, .slice none 0 0] 25)).trans (hb.mono (by have := HB3.out.size; simp; omega)))
    clear hb p2 p3
    obtain ⟨r2, r3⟩ := cells2 HS4.out
    go_wp2_with fail
    refine (sound_any f t s.size _).mono ?_
    rintro e w5 ⟨rfl, hb⟩
    rw [show (decide (0 ≤ f) && decide (f ≤ t) && decide (t ≤ (s.size : Int))) = true by simp; omega]
    have HT5 := Lib.hid (HT4.out.below hb HT4.out.lt)
    have HB5 := Lib.hid (HB4.out.trans (hb.mono HB4.out.size))
    clear hb r2 r3
    obtain ⟨m2, m3⟩ := cells2 HT5.out
    go_wp2_with fail
    refine (lines_none _).mono ?_
    rintro e w6 ⟨rfl, hb⟩
    have HT6 := Lib.hid (HT5.out.below hb HT5.out.lt)
    have HB6 := Lib.hid (HB5.out.trans (hb.mono HB5.out.size))
    clear hb m2 m3
    obtain ⟨n2, n3⟩ := cells2 HT6.out
    go_wp2_with fail
    refine (len_none _).mono ?_
    rintro e w7 ⟨rfl, hb⟩
    have HB7 := Lib.hid (HB6.out.trans (hb.mono HB6.out.size))
    clear hb
    go_wp2
    go_ret
    exact ⟨rfl, HB7.out⟩

theorem spanCuts_walk (s : ByteArray) (f t : Int) (w : World) (hs : s.size ≤ maxLen) : Calls Try.prog 6 #[.string s, .int .i64 f, .int .i64 t] w fun e w' => e = .returned (.bool true) ∧ Below w.heap.size w w' := by
  unfold maxLen at hs
  by_cases h : s.size ≤ 3000
  · by_cases hn : 0 ≤ f ∧ f ≤ t ∧ t ≤ s.size
    · exact spanCuts_in s f t w h hn.1 hn.2.1 hn.2.2
    · exact spanCuts_out s f t w h hn
  · exact spanCuts_far s f t w (by omega) (by omega)
end Go.Proofs.Ytendbkbjmibchaa
