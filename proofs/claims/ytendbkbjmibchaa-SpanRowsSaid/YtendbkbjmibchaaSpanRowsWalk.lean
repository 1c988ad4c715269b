/- The law SpanRows returns true, whatever it is given. -/
import Derived.Test.YtendbkbjmibchaaG
import Derived.Deep.DeepCutAuto
namespace Go.Proofs.Ytendbkbjmibchaa
open Go.RowKit

/-- Where the line number k begins, by where the one ahead of it ends. -/
def nx (s : ByteArray) (k : Nat) : Nat := if k = 0 then 0 else en s (k - 1) + 1
theorem nx_bg (s : ByteArray) (k : Nat) (h : k ≤ (F s).length) : nx s k = bg s k := by
  unfold nx
  by_cases h0 : k = 0
  · rw [if_pos h0, h0]; rfl
  · rw [if_neg h0]
    have := (bg_succ s (k - 1) (by omega)).1
    rw [show k - 1 + 1 = k by omega] at this
    exact this.symm
theorem nx_succ (s : ByteArray) (k : Nat) : nx s (k + 1) = en s k + 1 := by
  unfold nx
  rw [if_neg (by omega), Nat.add_sub_cancel]
theorem nx_all (s : ByteArray) : nx s ((F s).length + 1) = s.size + 1 := by
  rw [nx_succ]
  unfold en
  rw [if_pos rfl]

set_option maxHeartbeats 2000000 in
theorem spanRows_far (s : ByteArray) (w : World) (hm : (s.size : Int) ≤ 9223372036854775807) (hl : 2000 < s.size) :
    Calls Try.prog 7 #[.string s] w fun e w' => e = .returned (.bool true) ∧ Below w.heap.size w w' := by
  have hl' : (2000 : Int) < (s.size : Int) := by omega
  go_enter Try.func7, Try.ntmps7
  go_wp2_with fail
  refine (awake_any _).mono ?_
  rintro e w1 ⟨rfl, hb⟩
  have HB := Lib.hid hb
  clear hb
  go_wp2
  go_ret
  exact ⟨rfl, HB.out⟩

set_option maxHeartbeats 2000000 in
theorem spanRows_near (s : ByteArray) (w : World) (hl : s.size ≤ 2000) :
    Calls Try.prog 7 #[.string s] w fun e w' => e = .returned (.bool true) ∧ Below w.heap.size w w' := by
  have hF := F_len s
  go_enter Try.func7, Try.ntmps7
  go_wp2_with fail
  refine (of_any s _ (by omega)).mono ?_
  rintro e w1 ⟨A, cap, rfl, hi, hb⟩
  have HR1 := Lib.hid (RowB.new w1 25 #[.string s, .slice A (F s).length cap])
  have HI1 := Lib.hid ((hi.alloc (Nat.le_refl _) (.cells #[.string s, .slice A (F s).length cap] 25)).more (by simp : w1.heap.size ≤ (w1.alloc (.cells #[.string s, .slice A (F s).length cap] 25)).heap.size))
  have HB1 := Lib.hid (hb.alloc hb.size (.cells #[.string s, .slice A (F s).length cap] 25))
  have hw1 := hb.size
  clear hi hb
  go_wp2_with fail
  refine (lines_any s A cap _ (by omega)).mono ?_
  rintro e wd ⟨rfl, hb⟩
  have HRd := Lib.hid (HR1.out.below hb (by simp))
  have HId := Lib.hid ((HI1.out.below hb).more hb.size)
  have HBd := Lib.hid (HB1.out.trans (hb.mono HB1.out.size))
  clear hb
  go_wp2_with fail
  go_loopw [4, 5, 6, 7, 8, 9, 10, 11, 22] (fun nxt _ _ _ _ _ _ _ i wr => ∃ k : Nat, k ≤ (F s).length + 1 ∧ i = .int .i64 k ∧ nxt = .int .i64 (nx s k) ∧ RowB wr w1.heap.size 25 #[.string s, .slice A (F s).length cap] ∧ Ints wr wr.heap.size A (F s) ∧ Below w.heap.size w wr)
    (fun _ _ _ _ _ _ _ _ i _ => (F s).length + 1 - (intOf i).toNat)
  case atStart => exact ⟨0, by omega, rfl, rfl, HRd.out, HId.out, HBd.out⟩
  case round =>
    obtain ⟨k, hk, rfl, rfl, hr, hi, hb⟩ := hrel
    have HR := Lib.hid hr
    have HI := Lib.hid hi
    have HB := Lib.hid hb
    obtain ⟨q0, q1⟩ := (⟨HR.out.cell 0, HR.out.cell 1⟩ : wr.cell? ⟨w1.heap.size, 0, none⟩ = some (.string s) ∧ wr.cell? ⟨w1.heap.size, 1, none⟩ = some (.slice A (F s).length cap))
    clear hr hi hb
    by_cases hlt : k < (F s).length + 1
    · have hen := bg_le_en s k (by omega)
      have HN := Lib.hid (nx_bg s k (by omega))
      go_wp2_with fail
      refine (line_in s A cap k _ (by omega) HI.out (by omega) (by omega)).mono ?_
      rintro e we ⟨rfl, hb⟩
      have HR' := Lib.hid (HR.out.below hb HR.out.lt)
      have HI' := Lib.hid ((HI.out.below hb).more hb.size)
      have HB' := Lib.hid (HB.out.trans (hb.mono HB.out.size))
      obtain ⟨p0, p1⟩ := (⟨HR'.out.cell 0, HR'.out.cell 1⟩ : we.cell? ⟨w1.heap.size, 0, none⟩ = some (.string s) ∧ we.cell? ⟨w1.heap.size, 1, none⟩ = some (.slice A (F s).length cap))
      clear hb q0 q1
      go_wp2_with fail
      refine (at_in s A cap k 0 _ (by omega) HI'.out (by omega) (by omega)).mono ?_
      rintro e wf ⟨he, hb⟩
      rw [Int.toNat_natCast, if_pos (by omega), show (bg s k : Int) + 0 = (nx s k : Int) by rw [HN.out]; omega] at he
      subst he
      have HR2 := Lib.hid (HR'.out.below hb HR'.out.lt)
      have HI2 := Lib.hid ((HI'.out.below hb).more hb.size)
      have HB2 := Lib.hid (HB'.out.trans (hb.mono HB'.out.size))
      obtain ⟨r0, r1⟩ := (⟨HR2.out.cell 0, HR2.out.cell 1⟩ : wf.cell? ⟨w1.heap.size, 0, none⟩ = some (.string s) ∧ wf.cell? ⟨w1.heap.size, 1, none⟩ = some (.slice A (F s).length cap))
      clear hb p0 p1
      go_wp2_with fail
      refine (at_in s A cap k _ _ (by omega) HI2.out (by omega) (by omega)).mono ?_
      rintro e wg ⟨he, hb⟩
      rw [Int.toNat_natCast, if_pos (by omega)] at he
      have he2 := he.trans (show Ending.returned (.tuple #[.int .i64 ((bg s k : Int) + ((en s k - bg s k : Nat) : Int)), .int .i64 0]) = .returned (.tuple #[.int .i64 ((nx s k : Int) + ((en s k - bg s k : Nat) : Int)), .int .i64 0]) by rw [HN.out])
      clear he
      subst he2
      have hx1 : nx s k ≤ 2000 := by rw [HN.out]; omega
      have HR3 := Lib.hid (HR2.out.below hb HR2.out.lt)
      have HI3 := Lib.hid ((HI2.out.below hb).more hb.size)
      have HB3 := Lib.hid (HB2.out.trans (hb.mono HB2.out.size))
      clear hb r0 r1
      have HS := Lib.hid (nx_succ s k)
      go_wp2
      go_roundw
      case rel => exact ⟨k + 1, by omega, by go_num, congrArg (Value.int IntKind.i64) (by rw [HS.out]; have := HN.out; omega), HR3.out, HI3.out, HB3.out⟩
      case measure => simp [intOf] <;> omega
    · obtain rfl : k = (F s).length + 1 := by omega
      rw [nx_all]
      go_wp2_with fail
      go_region_held3 (fun w' => w'.cell? ⟨w1.heap.size, 0, none⟩ = some (.string s) ∧ w'.cell? ⟨w1.heap.size, 1, none⟩ = some (.slice A (F s).length cap) ∧ Below (w1.heap.size + 1) wr w' ∧ w1.heap.size < w'.heap.size)
        (first | exact ⟨q0, q1, (Below.refl _ _).drew, HR.out.lt⟩ | exact held_step (by assumption) hbn)
        (first
          | (go_at_call 18; refine (lines_any s A cap _ (by omega)).mono ?_; rintro e w' ⟨rfl, hbn⟩; dsimp only)
          | (go_at_call 22; refine (line_out s A cap _ _ (by omega)).mono ?_; rintro e w' ⟨rfl, hbn⟩; dsimp only))
      all_goals
        have hB := (by assumption : _ ∧ _ ∧ Below (w1.heap.size + 1) wr w' ∧ _).2.2.1
        have HBf := Lib.hid (HB.out.trans (hB.mono (by omega)))
        clear hB
        go_wp2_with fail
        refine (awake_any _).mono ?_
        rintro e wz ⟨rfl, hbz⟩
        have HBz := Lib.hid (HBf.out.trans (hbz.mono HBf.out.size))
        clear hbz
        go_wp2
        go_ret
        exact ⟨rfl, HBz.out⟩

theorem spanRows_walk (s : ByteArray) (w : World) (hs : s.size ≤ maxLen) : Calls Try.prog 7 #[.string s] w fun e w' => e = .returned (.bool true) ∧ Below w.heap.size w w' := by
  unfold maxLen at hs
  by_cases h : s.size ≤ 2000
  · exact spanRows_near s w h
  · exact spanRows_far s w (by omega) (by omega)
end Go.Proofs.Ytendbkbjmibchaa
