/- The law SpanBack returns true, whatever it is given. -/
import Derived.Test.YtendbkbjmibchaaG
import Derived.Deep.DeepCutAuto
namespace Go.Proofs.Ytendbkbjmibchaa
open Go.RowKit

/-- The first k lines with line feeds between. -/
def upTo (s : ByteArray) (k : Nat) : ByteArray := s.extract 0 (if k = 0 then 0 else en s (k - 1))

theorem bytes_ext {a b : ByteArray} (h : a.data.toList = b.data.toList) : a = b := by
  cases a; cases b
  simp only [ByteArray.mk.injEq]
  exact Array.toList_inj.1 h
theorem bytes_cut (s : ByteArray) (i j : Nat) : (s.extract i j).data.toList = (s.data.toList.drop i).take (j - i) := by
  rw [ByteArray.data_extract, Array.toList_extract, List.extract_eq_take_drop]
theorem upTo_list (s : ByteArray) (k : Nat) : (upTo s k).data.toList = s.data.toList.take (if k = 0 then 0 else en s (k - 1)) := by
  unfold upTo
  rw [bytes_cut, List.drop_zero, Nat.sub_zero]
theorem upTo_size (s : ByteArray) (k : Nat) : (upTo s k).size ≤ s.size := by
  unfold upTo
  rw [ByteArray.size_extract]
  omega
theorem upTo_first (s : ByteArray) : upTo s 0 ++ s.extract (bg s 0) (en s 0) = upTo s (0 + 1) := by
  apply bytes_ext
  rw [ByteArray.data_append, Array.toList_append, upTo_list, upTo_list, bytes_cut]
  simp [bg]
theorem upTo_next (s : ByteArray) (k : Nat) (h0 : 0 < k) (h : k ≤ (F s).length) : upTo s k ++ ⟨#[10]⟩ ++ s.extract (bg s k) (en s k) = upTo s (k + 1) := by
  obtain ⟨j, rfl⟩ : ∃ j, k = j + 1 := ⟨k - 1, by omega⟩
  obtain ⟨h1, h2⟩ := bg_succ s j (by omega)
  have h3 := bg_le_en s (j + 1) h
  apply bytes_ext
  rw [ByteArray.data_append, Array.toList_append, ByteArray.data_append, Array.toList_append, upTo_list, upTo_list, bytes_cut]
  simp only [Nat.add_sub_cancel, Nat.add_eq_zero_iff, Nat.one_ne_zero, and_false, if_false]
  unfold nlAt at h2
  have h4 : s.data.toList[en s j]? = some 10 := by simpa using h2
  have h5 : List.take (en s j) s.data.toList ++ [10] = List.take (en s j + 1) s.data.toList := by rw [List.take_add_one, h4]; rfl
  show List.take (en s j) s.data.toList ++ [10] ++ _ = _
  rw [h5, h1, ← List.take_add]
  congr 1
  omega
theorem upTo_all (s : ByteArray) : upTo s ((F s).length + 1) = s := by
  apply bytes_ext
  rw [upTo_list, if_neg (by omega), Nat.add_sub_cancel]
  unfold en
  rw [if_pos rfl]
  exact List.take_of_length_le (by simp)

set_option maxHeartbeats 2000000 in
theorem spanBack_far (s : ByteArray) (a : Int) (w : World) (hm : (s.size : Int) ≤ 9223372036854775807) (hl : 3000 < s.size) :
    Calls Try.prog 4 #[.string s, .int .i64 a] w fun e w' => e = .returned (.bool true) ∧ Below w.heap.size w w' := by
  have hl' : (3000 : Int) < (s.size : Int) := by omega
  go_enter Try.func4, Try.ntmps4
  go_wp2_with fail
  refine (awake_any _).mono ?_
  rintro e w1 ⟨rfl, hb⟩
  have HB := Lib.hid hb
  clear hb
  go_wp2
  go_ret
  exact ⟨rfl, HB.out⟩

set_option maxHeartbeats 2000000 in
theorem spanBack_near (s : ByteArray) (a : Int) (w : World) (hl : s.size ≤ 3000) :
    Calls Try.prog 4 #[.string s, .int .i64 a] w fun e w' => e = .returned (.bool true) ∧ Below w.heap.size w w' := by
  have hF := F_len s
  go_enter Try.func4, Try.ntmps4
  go_wp2_with fail
  refine (of_any s _ (by omega)).mono ?_
  rintro e w1 ⟨A, cap, rfl, hi, hb⟩
  have HI := Lib.hid hi
  have HB := Lib.hid hb
  clear hi hb
  have HR1 := Lib.hid (RowB.new w1 25 #[.string s, .slice A (F s).length cap])
  have HI1 := Lib.hid ((HI.out.alloc (Nat.le_refl _) (.cells #[.string s, .slice A (F s).length cap] 25)).more (by simp : w1.heap.size ≤ (w1.alloc (.cells #[.string s, .slice A (F s).length cap] 25)).heap.size))
  have HB1 := Lib.hid (HB.out.alloc HB.out.size (.cells #[.string s, .slice A (F s).length cap] 25))
  by_cases hin : 0 ≤ a ∧ a ≤ s.size
  case' pos =>
    obtain ⟨h0, h1⟩ := hin
    have hl2 := lno_in s a.toNat (by omega)
    have hl1 := lno_le s a.toNat (by omega)
    go_wp2_with fail
    refine (place_in s A cap a _ (by omega) HI1.out h0 h1).mono ?_
    rintro e w2 ⟨rfl, hb⟩
    have HR2 := Lib.hid (HR1.out.below hb (by simp))
    have HI2 := Lib.hid ((HI1.out.below hb).more hb.size)
    have HB2 := Lib.hid (HB1.out.trans (hb.mono HB1.out.size))
    obtain ⟨q0, q1⟩ := (⟨HR2.out.cell 0, HR2.out.cell 1⟩ : w2.cell? ⟨w1.heap.size, 0, none⟩ = some (.string s) ∧ w2.cell? ⟨w1.heap.size, 1, none⟩ = some (.slice A (F s).length cap))
    clear hb
    go_wp2_with fail
    refine (at_in s A cap (lno s a.toNat) (a - bg s (lno s a.toNat)) _ (by omega) HI2.out (by omega) (by omega)).mono ?_
    rintro e wc ⟨he, hb⟩
    rw [Int.toNat_natCast, if_pos (by omega), show (bg s (lno s a.toNat) : Int) + (a - bg s (lno s a.toNat)) = a by omega] at he
    subst he
    have HRc := Lib.hid (HR2.out.below hb HR2.out.lt)
    have HIc := Lib.hid ((HI2.out.below hb).more hb.size)
    have HBc := Lib.hid (HB2.out.trans (hb.mono HB2.out.size))
    obtain ⟨k0, k1⟩ := (⟨HRc.out.cell 0, HRc.out.cell 1⟩ : wc.cell? ⟨w1.heap.size, 0, none⟩ = some (.string s) ∧ wc.cell? ⟨w1.heap.size, 1, none⟩ = some (.slice A (F s).length cap))
    clear hb q0 q1
    go_wp2_with fail
  case' neg =>
    go_wp2_with fail
    refine (place_out s A cap a _ (by omega)).mono ?_
    rintro e wc ⟨rfl, hb⟩
    have HRc := Lib.hid (HR1.out.below hb (by simp))
    have HIc := Lib.hid ((HI1.out.below hb).more hb.size)
    have HBc := Lib.hid (HB1.out.trans (hb.mono HB1.out.size))
    obtain ⟨k0, k1⟩ := (⟨HRc.out.cell 0, HRc.out.cell 1⟩ : wc.cell? ⟨w1.heap.size, 0, none⟩ = some (.string s) ∧ wc.cell? ⟨w1.heap.size, 1, none⟩ = some (.slice A (F s).length cap))
    clear hb
    go_wp2_with fail
  all_goals
    refine (lines_any s A cap _ (by omega)).mono ?_
    rintro e wd ⟨rfl, hb⟩
    have HRd := Lib.hid (HRc.out.below hb HRc.out.lt)
    have HId := Lib.hid ((HIc.out.below hb).more hb.size)
    have HBd := Lib.hid (HBc.out.trans (hb.mono HBc.out.size))
    clear hb k0 k1
    go_wp2_with fail
    go_loopw [11, 12, 13, 14, 46] (fun al _ _ _ i wr => ∃ k : Nat, k ≤ (F s).length + 1 ∧ i = .int .i64 k ∧ al = .string (upTo s k) ∧ RowB wr w1.heap.size 25 #[.string s, .slice A (F s).length cap] ∧ Ints wr wr.heap.size A (F s) ∧ Below w.heap.size w wr)
      (fun _ _ _ _ i _ => (F s).length + 1 - (intOf i).toNat)
    case atStart => exact ⟨0, by omega, rfl, by simp [upTo]; rfl, HRd.out, HId.out, HBd.out⟩
    case round =>
      obtain ⟨k, hk, rfl, rfl, hr, hi, hb⟩ := hrel
      have HR := Lib.hid hr
      have HI := Lib.hid hi
      have HB := Lib.hid hb
      obtain ⟨q0, q1⟩ := (⟨HR.out.cell 0, HR.out.cell 1⟩ : wr.cell? ⟨w1.heap.size, 0, none⟩ = some (.string s) ∧ wr.cell? ⟨w1.heap.size, 1, none⟩ = some (.slice A (F s).length cap))
      clear hr hi hb
      have hu := upTo_size s k
      by_cases hlt : k < (F s).length + 1
      · have hen := bg_le_en s k (by omega)
        go_wp2_with fail
        refine (line_in s A cap k _ (by omega) HI.out (by omega) (by omega)).mono ?_
        rintro e we ⟨rfl, hb⟩
        have HR' := Lib.hid (HR.out.below hb HR.out.lt)
        have HI' := Lib.hid ((HI.out.below hb).more hb.size)
        have HB' := Lib.hid (HB.out.trans (hb.mono HB.out.size))
        clear hb q0 q1
        by_cases hk0 : 0 < k
        · have HN := Lib.hid (upTo_next s k hk0 (by omega))
          go_wp2_with fail
          go_roundw
          case rel => exact ⟨k + 1, by omega, by go_num, congrArg Value.string HN.out, HR'.out, HI'.out, HB'.out⟩
          case measure => simp [intOf] <;> omega
        · obtain rfl : k = 0 := by omega
          have HN := Lib.hid (upTo_first s)
          clear hk0
          go_wp2_with fail
          go_roundw
          case rel => exact ⟨0 + 1, by omega, by go_num, congrArg Value.string HN.out, HR'.out, HI'.out, HB'.out⟩
          case measure => simp [intOf] <;> omega
      · obtain rfl : k = (F s).length + 1 := by omega
        rw [upTo_all]
        clear hu
        go_wp2_with fail
        refine (awake_any _).mono ?_
        rintro e wf ⟨rfl, hb⟩
        have HBf := Lib.hid (HB.out.trans (hb.mono HB.out.size))
        clear hb
        go_wp2
        go_ret
        exact ⟨rfl, HBf.out⟩
end Go.Proofs.Ytendbkbjmibchaa
