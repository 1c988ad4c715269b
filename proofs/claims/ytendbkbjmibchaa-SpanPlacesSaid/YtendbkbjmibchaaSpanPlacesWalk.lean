/- The law SpanPlaces returns true, whatever it is given. -/
import Derived.Test.YtendbkbjmibchaaS
namespace Go.Proofs.Ytendbkbjmibchaa
open Go.RowKit

theorem cells_2 {w : World} {g t : Nat} {x y : Value} (h : RowB w g t #[x, y]) : w.cell? ⟨g, 0, none⟩ = some x ∧ w.cell? ⟨g, 1, none⟩ = some y := ⟨h.cell 0, h.cell 1⟩

theorem place_both (s : ByteArray) (a : Int) (hl : s.size ≤ 3000) : ∃ p q r : Int,
    (∀ A cap w, Ints w w.heap.size A (F s) → Calls Try.prog 16 #[tx s A cap, .int .i64 a] w fun e w' => e = .returned (.tuple #[.int .i64 p, .int .i64 q, .int .i64 r]) ∧ Below w.heap.size w w') ∧
    (∀ w, Calls Try.prog 17 #[.string s, .int .i64 a] w fun e w' => e = .returned (.tuple #[.int .i64 p, .int .i64 q, .int .i64 r]) ∧ w = w') := by
  by_cases h : 0 ≤ a ∧ a ≤ s.size
  · exact ⟨_, _, _, fun A cap w hx => place_in s A cap a w (by omega) hx h.1 h.2, fun w => rplace_in s a w (by omega) h.1 h.2⟩
  · exact ⟨_, _, _, fun A cap w _ => place_out s A cap a w (by omega), fun w => rplace_out s a w (by omega)⟩

theorem at_both (s : ByteArray) (i c : Int) (hl : s.size ≤ 3000) : ∃ x g : Int,
    (∀ A cap w, Ints w w.heap.size A (F s) → Calls Try.prog 20 #[tx s A cap, .int .i64 i, .int .i64 c] w fun e w' => e = .returned (.tuple #[.int .i64 x, .int .i64 g]) ∧ Below w.heap.size w w') ∧
    (∀ w, Calls Try.prog 21 #[.string s, .int .i64 i, .int .i64 c] w fun e w' => e = .returned (.tuple #[.int .i64 x, .int .i64 g]) ∧ Below w.heap.size w w') := by
  by_cases h : 0 ≤ i ∧ i ≤ (F s).length
  · by_cases h2 : 0 ≤ c ∧ c ≤ (en s i.toNat : Int) - bg s i.toNat
    · refine ⟨_, _, fun A cap w hx => (at_in s A cap i c w (by omega) hx h.1 h.2).mono fun e w' he => ?_, fun w => rat_in s i c w hl h.1 h.2 h2.1 h2.2⟩
      unfold AtOf at he
      rw [if_pos h2] at he
      exact he
    · refine ⟨_, _, fun A cap w hx => (at_in s A cap i c w (by omega) hx h.1 h.2).mono fun e w' he => ?_, fun w => rat_out s i c w hl (by omega)⟩
      unfold AtOf at he
      rw [if_neg h2] at he
      exact he
  · exact ⟨_, _, fun A cap w _ => at_out s A cap i c w h, fun w => rat_out s i c w hl (by omega)⟩

set_option maxHeartbeats 2000000 in
theorem spanPlaces_far (s : ByteArray) (a i c : Int) (w : World) (hm : (s.size : Int) ≤ 9223372036854775807) (hl : 3000 < s.size) :
    Calls Try.prog 3 #[.string s, .int .i64 a, .int .i64 i, .int .i64 c] w fun e w' => e = .returned (.bool true) ∧ Below w.heap.size w w' := by
  have hl' : (3000 : Int) < (s.size : Int) := by omega
  go_enter Try.func3, Try.ntmps3
  go_wp2_with fail
  refine (awake_any _).mono ?_
  rintro e w1 ⟨rfl, hb⟩
  have HB := Lib.hid hb
  clear hb
  go_wp2
  go_ret
  exact ⟨rfl, HB.out⟩

set_option maxRecDepth 100000 in
set_option maxHeartbeats 4000000 in
theorem spanPlaces_near (s : ByteArray) (a i c : Int) (w : World) (hl : s.size ≤ 3000) :
    Calls Try.prog 3 #[.string s, .int .i64 a, .int .i64 i, .int .i64 c] w fun e w' => e = .returned (.bool true) ∧ Below w.heap.size w w' := by
  have hF := F_len s
  obtain ⟨p, q, r, C1, C2⟩ := place_both s a hl
  obtain ⟨x, g, C3, C4⟩ := at_both s i c hl
  have D1 := Lib.hid C1
  have D2 := Lib.hid C2
  have D3 := Lib.hid C3
  have D4 := Lib.hid C4
  clear C1 C2 C3 C4
  go_enter Try.func3, Try.ntmps3
  go_wp2_with fail
  refine (of_any s _ (by omega)).mono ?_
  rintro e w1 ⟨A, cap, rfl, hi, hb⟩
  have HR1 := Lib.hid (RowB.new w1 25 #[.string s, .slice A (F s).length cap])
  have HI1 := Lib.hid ((hi.alloc (Nat.le_refl _) (.cells #[.string s, .slice A (F s).length cap] 25)).more (by simp : w1.heap.size ≤ (w1.alloc (.cells #[.string s, .slice A (F s).length cap] 25)).heap.size))
  have HB1 := Lib.hid (hb.alloc hb.size (.cells #[.string s, .slice A (F s).length cap] 25))
  clear hi hb
  go_wp2_with fail
  refine (split_any s _ hl).mono ?_
  rintro e w2 ⟨g2, cap2, rfl, hg, hc, hb⟩
  have HC := Lib.hid hc
  have HR2 := Lib.hid (HR1.out.below hb HR1.out.lt)
  have HI2 := Lib.hid ((HI1.out.below hb).more hb.size)
  have HB2 := Lib.hid (HB1.out.trans (hb.mono HB1.out.size))
  obtain ⟨q0, q1⟩ := cells_2 HR2.out
  clear hb hc
  go_wp2_with fail
  refine (D1.out A cap _ HI2.out).mono ?_
  rintro e w3 ⟨rfl, hb⟩
  have HG3 := Lib.hid (Nat.lt_of_lt_of_le hg hb.size)
  have HC3 : Hid (∀ i, i < (F s).length + 1 → w3.cell? ⟨g2, i, none⟩ = some (.string (ln s i))) := fun i hi => (hb.cell (p := ⟨g2, i, none⟩) hg).trans (HC.out i hi)
  have HR3 := Lib.hid (HR2.out.below hb HR2.out.lt)
  have HI3 := Lib.hid ((HI2.out.below hb).more hb.size)
  have HB3 := Lib.hid (HB2.out.trans (hb.mono HB2.out.size))
  clear hb q0 q1 hg
  obtain ⟨q0, q1⟩ := cells_2 HR3.out
  go_wp2_with fail
  refine (D2.out _).mono ?_
  rintro e w4 ⟨rfl, rfl⟩
  go_wp2_with fail
  refine (lines_any s A cap _ (by omega)).mono ?_
  rintro e w4 ⟨rfl, hb⟩
  have HG4 := Lib.hid (Nat.lt_of_lt_of_le HG3.out hb.size)
  have HC4 : Hid (∀ i, i < (F s).length + 1 → w4.cell? ⟨g2, i, none⟩ = some (.string (ln s i))) := fun i hi => (hb.cell (p := ⟨g2, i, none⟩) HG3.out).trans (HC3.out i hi)
  have HR4 := Lib.hid (HR3.out.below hb HR3.out.lt)
  have HI4 := Lib.hid ((HI3.out.below hb).more hb.size)
  have HB4 := Lib.hid (HB3.out.trans (hb.mono HB3.out.size))
  clear hb q0 q1
  obtain ⟨q0, q1⟩ := cells_2 HR4.out
  go_wp2_with fail
  refine (len_any s A cap _).mono ?_
  rintro e w5 ⟨rfl, hb⟩
  have HG5 := Lib.hid (Nat.lt_of_lt_of_le HG4.out hb.size)
  have HC5 : Hid (∀ i, i < (F s).length + 1 → w5.cell? ⟨g2, i, none⟩ = some (.string (ln s i))) := fun i hi => (hb.cell (p := ⟨g2, i, none⟩) HG4.out).trans (HC4.out i hi)
  have HR5 := Lib.hid (HR4.out.below hb HR4.out.lt)
  have HI5 := Lib.hid ((HI4.out.below hb).more hb.size)
  have HB5 := Lib.hid (HB4.out.trans (hb.mono HB4.out.size))
  clear hb q0 q1
  obtain ⟨q0, q1⟩ := cells_2 HR5.out
  go_wp2_with fail
  refine (D3.out A cap _ HI5.out).mono ?_
  rintro e w6 ⟨rfl, hb⟩
  have HG6 := Lib.hid (Nat.lt_of_lt_of_le HG5.out hb.size)
  have HC6 : Hid (∀ i, i < (F s).length + 1 → w6.cell? ⟨g2, i, none⟩ = some (.string (ln s i))) := fun i hi => (hb.cell (p := ⟨g2, i, none⟩) HG5.out).trans (HC5.out i hi)
  have HR6 := Lib.hid (HR5.out.below hb HR5.out.lt)
  have HI6 := Lib.hid ((HI5.out.below hb).more hb.size)
  have HB6 := Lib.hid (HB5.out.trans (hb.mono HB5.out.size))
  clear hb q0 q1
  go_wp2_with fail
  refine (D4.out _).mono ?_
  rintro e w7 ⟨rfl, hb⟩
  have HG7 := Lib.hid (Nat.lt_of_lt_of_le HG6.out hb.size)
  have HC7 : Hid (∀ i, i < (F s).length + 1 → w7.cell? ⟨g2, i, none⟩ = some (.string (ln s i))) := fun i hi => (hb.cell (p := ⟨g2, i, none⟩) HG6.out).trans (HC6.out i hi)
  have HR7 := Lib.hid (HR6.out.below hb HR6.out.lt)
  have HI7 := Lib.hid ((HI6.out.below hb).more hb.size)
  have HB7 := Lib.hid (HB6.out.trans (hb.mono HB6.out.size))
  clear hb
  obtain ⟨q0, q1⟩ := cells_2 HR7.out
  by_cases hv : 0 ≤ i ∧ i ≤ (F s).length
  · obtain ⟨h0, h1⟩ := hv
    have h1' : i < ((F s).length : Int) + 1 := by omega
    go_wp2_with fail
    refine (line_in s A cap i _ (by omega) HI7.out h0 h1).mono ?_
    rintro e w8 ⟨rfl, hb⟩
    have hcm : w8.cell? ⟨g2, i.toNat, none⟩ = some (.string (s.extract (bg s i.toNat) (en s i.toNat))) := (hb.cell (p := ⟨g2, i.toNat, none⟩) HG7.out).trans (HC7.out i.toNat (by omega))
    have HB8 := Lib.hid (HB7.out.trans (hb.mono HB7.out.size))
    clear hb q0 q1
    go_wp2_with fail
    refine (awake_any _).mono ?_
    rintro e w9 ⟨rfl, hb⟩
    have HB9 := Lib.hid (HB8.out.trans (hb.mono HB8.out.size))
    clear hb
    go_wp2
    go_ret
    exact ⟨rfl, HB9.out⟩
  · have HV := Lib.hid hv
    go_wp2_with fail
    refine (line_out s A cap i _ HV.out).mono ?_
    rintro e w8 ⟨rfl, hb⟩
    have HB8 := Lib.hid (HB7.out.trans (hb.mono HB7.out.size))
    clear hb q0 q1 hv
    by_cases h0 : 0 ≤ i
    case' pos =>
      have h1 : ((F s).length : Int) + 1 ≤ i := by have := HV.out; omega
    case' neg =>
      have h0' : i < 0 := by omega
    all_goals
      go_wp2_with fail
      refine (awake_any _).mono ?_
      rintro e w9 ⟨rfl, hb⟩
      have HB9 := Lib.hid (HB8.out.trans (hb.mono HB8.out.size))
      clear hb
      go_wp2
      go_ret
      exact ⟨rfl, HB9.out⟩

theorem spanPlaces_walk (s : ByteArray) (a i c : Int) (w : World) (hs : s.size ≤ maxLen) : Calls Try.prog 3 #[.string s, .int .i64 a, .int .i64 i, .int .i64 c] w fun e w' => e = .returned (.bool true) ∧ Below w.heap.size w w' := by
  unfold maxLen at hs
  by_cases h : s.size ≤ 3000
  · exact spanPlaces_near s a i c w h
  · exact spanPlaces_far s a i c w (by omega) (by omega)
end Go.Proofs.Ytendbkbjmibchaa
