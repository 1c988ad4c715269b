/- The law RunesParts returns true, whatever it is given. -/
import Derived.Test.YtpbheelocigciaaDoorRunesPutsWalk
namespace Go.Proofs.YtpbheelocigciaaDoor
open Go.RowKit
open Go.Lib (encodeRune runeCells)

set_option maxHeartbeats 1000000 in
theorem runesParts_far (s : ByteArray) (a r : Int) (w : World) (hT : Tabs w) (hs : (s.size : Int) ≤ 9223372036854775807) (hl : 2000 < s.size) :
    Calls Tryd.prog 7 #[.string s, .int .i64 a, .int .i32 r] w fun e w' => e = .returned (.bool true) ∧ Below w.heap.size w w' := by
  have C := Lib.hid (awake_any w hT)
  have hz : (s.size : Int) > 2000 := by omega
  clear hT
  go_enter Tryd.func7, Tryd.ntmps7
  go_wp2_with fail
  refine C.out.mono ?_
  rintro e w1 ⟨rfl, hb⟩
  have HB := Lib.hid hb
  clear hb
  go_wp2_with fail
  go_ret
  exact ⟨rfl, HB.out⟩

theorem badI_some {l : List UInt8} (h : badAt l ≠ none) : 0 ≤ badI l := by
  unfold badI
  split
  · rename_i h'; exact absurd h' h
  · omega

set_option maxHeartbeats 1000000 in
theorem runesParts_bad (s : ByteArray) (a r : Int) (w : World) (hT : Tabs w) (hs : s.size ≤ 2000) (hb : badAt s.data.toList ≠ none) :
    Calls Tryd.prog 7 #[.string s, .int .i64 a, .int .i32 r] w fun e w' => e = .returned (.bool true) ∧ Below w.heap.size w w' := by
  have c := bad_any s w hT (by omega)
  have hbn := badI_some hb
  obtain ⟨b, hb'⟩ : ∃ b, b = badI s.data.toList := ⟨_, rfl⟩
  rw [← hb'] at c hbn
  have C := Lib.hid c
  have HT := Lib.hid hT
  have hz : ¬ (s.size : Int) > 2000 := by omega
  have hbz : b ≥ 0 := hbn
  clear c hT hb hb' hbn
  go_enter Tryd.func7, Tryd.ntmps7
  go_wp2_with fail
  refine C.out.mono ?_
  rintro e w1 ⟨rfl, hb⟩
  have HB := Lib.hid hb
  clear hb
  go_wp2_with fail
  refine (awake_any _ (HT.out.below HB.out)).mono ?_
  rintro e w2 ⟨rfl, hb⟩
  have HB2 := Lib.hid (step_below HB.out hb)
  clear hb
  go_wp2_with fail
  go_ret
  exact ⟨rfl, HB2.out⟩

set_option maxHeartbeats 1000000 in
theorem runesParts_no (s : ByteArray) (a r : Int) (w : World) (hT : Tabs w) (hs : s.size ≤ 2000) (hg : badAt s.data.toList = none)
    (hn : ∀ W, Calls Tryd.prog 19 #[.string s, .int .i64 a] W fun e w' => e = .returned (.bool false) ∧ W = w') :
    Calls Tryd.prog 7 #[.string s, .int .i64 a, .int .i32 r] w fun e w' => e = .returned (.bool true) ∧ Below w.heap.size w w' := by
  have c := bad_any s w hT (by omega)
  rw [badI_none hg] at c
  have C := Lib.hid c
  have HN := Lib.hid hn
  have HT := Lib.hid hT
  have hz : ¬ (s.size : Int) > 2000 := by omega
  clear c hT hg hn
  go_enter Tryd.func7, Tryd.ntmps7
  go_wp2_with fail
  refine C.out.mono ?_
  rintro e w1 ⟨rfl, hb⟩
  have HB := Lib.hid hb
  clear hb
  go_wp2_with fail
  refine (HN.out _).mono ?_
  rintro e w2 ⟨rfl, rfl⟩
  go_wp2_with fail
  refine (awake_any _ (HT.out.below HB.out)).mono ?_
  rintro e w2 ⟨rfl, hb⟩
  have HB2 := Lib.hid (step_below HB.out hb)
  clear hb
  go_wp2_with fail
  go_ret
  exact ⟨rfl, HB2.out⟩

theorem ext_pre (s : ByteArray) (n : Nat) : (s.extract 0 n).data.toList = s.data.toList.take n := by
  rw [ByteArray.data_extract, Array.toList_extract, List.extract_eq_take_drop, List.drop_zero, Nat.sub_zero]

set_option maxHeartbeats 4000000 in
set_option maxRecDepth 100000 in
theorem runesParts_yes (s : ByteArray) (n : Nat) (r : Int) (w : World) (hT : Tabs w) (hs : s.size ≤ 2000) (hn : n ≤ s.size) (hg : badAt s.data.toList = none)
    (hr0 : -2147483648 ≤ r) (hr1 : r ≤ 2147483647) (hb : n < s.size → gb s n / 64 ≠ 2)
    (hy : ∀ W, Calls Tryd.prog 19 #[.string s, .int .i64 n] W fun e w' => e = .returned (.bool true) ∧ W = w') :
    Calls Tryd.prog 7 #[.string s, .int .i64 n, .int .i32 r] w fun e w' => e = .returned (.bool true) ∧ Below w.heap.size w w' := by
  have c := bad_any s w hT (by omega)
  rw [badI_none hg] at c
  obtain ⟨g1, g2, g3⟩ := cut_ok s.data.toList hg n (by rw [len_list]; exact hn) (fun h => hb (by rw [len_list] at h; exact h))
  obtain ⟨p, hp⟩ : ∃ p, p = s.extract 0 n := ⟨_, rfl⟩
  obtain ⟨q, hq⟩ : ∃ q, q = s.extract n s.size := ⟨_, rfl⟩
  have hpl : p.data.toList = s.data.toList.take n := by rw [hp, ext_pre]
  have hql : q.data.toList = s.data.toList.drop n := by rw [hq]; exact ext_end s n
  have hps : p.size ≤ 2000 := by rw [hp, ByteArray.size_extract]; omega
  have hqs : q.size ≤ 2000 := by rw [hq, ByteArray.size_extract]; omega
  rw [← hpl] at g1 g3
  rw [← hql] at g2 g3
  obtain ⟨x, hx⟩ : ∃ x, x = cnt p.data.toList := ⟨_, rfl⟩
  obtain ⟨y, hy'⟩ : ∃ y, y = cnt q.data.toList := ⟨_, rfl⟩
  have hxl := cnt_le p.data.toList
  have hyl := cnt_le q.data.toList
  rw [← hx, len_list] at hxl
  rw [← hy', len_list] at hyl
  rw [← hx, ← hy'] at g3
  have ca := fun w => count_any p w (by omega)
  have cb := fun w => count_any q w (by omega)
  have cs := fun w => count_any s w (by omega)
  rw [← hx] at ca
  rw [← hy'] at cb
  rw [← g3] at cs
  have ba := fun w hw => bad_any p w hw (by omega)
  have bb := fun w hw => bad_any q w hw (by omega)
  rw [badI_none g1] at ba
  rw [badI_none g2] at bb
  obtain ⟨z, hz'⟩ : ∃ z, z = (⟨(s.data.toList ++ encs [r]).toArray⟩ : ByteArray) := ⟨_, rfl⟩
  have hzl : z.data.toList = s.data.toList ++ encs [r] := by rw [hz']
  have hzs : z.size ≤ 3000 := by
    have := encs_len [r]
    rw [← len_list, hzl, List.length_append, len_list]
    simp at this
    omega
  have cz := fun w => count_any z w (by omega)
  rw [hzl, (cnt_app _ _ hg).1, (enc_all [r]).2, ← g3] at cz
  have cp := fun W (hA : Runes W W.heap.size (some ⟨w.heap.size, 0, none⟩) [r]) => hA
  clear cp
  have HC := Lib.hid c
  have CA := Lib.hid ca
  have CB := Lib.hid cb
  have CS := Lib.hid cs
  have BA := Lib.hid ba
  have BB := Lib.hid bb
  have CZ := Lib.hid cz
  have HY := Lib.hid hy
  have HT := Lib.hid hT
  have HP := Lib.hid hp
  have HQ := Lib.hid hq
  have HZ := Lib.hid hz'
  have hz : ¬ (s.size : Int) > 2000 := by omega
  clear c ca cb cs ba bb cz hy hT hp hq hz' hpl hql hzl hx hy' g1 g2 g3 hg hb
  go_enter Tryd.func7, Tryd.ntmps7
  go_wp2_with fail
  refine HC.out.mono ?_
  rintro e w1 ⟨rfl, hb⟩
  have HB := Lib.hid hb
  clear hb
  go_wp2_with fail
  refine (HY.out _).mono ?_
  rintro e w2 ⟨rfl, rfl⟩
  go_wp2_with fail
  have hnz : (n : Int) ≤ (s.size : Int) := by omega
  go_quiet (fail)
  rw [← HP.out, ← HQ.out]
  have HB0 := Lib.hid (below_drewN HB.out nq)
  go_wp2_with fail
  refine (awake_any _ (HT.out.below HB0.out)).mono ?_
  rintro e w2 ⟨rfl, hb⟩
  have HB2 := Lib.hid (step_below HB0.out hb)
  clear hb
  go_wp2_with fail
  refine (CA.out _).mono ?_
  rintro e w3 ⟨rfl, hb⟩
  have HB3 := Lib.hid (step_below HB2.out hb)
  clear hb
  go_wp2_with fail
  refine (CB.out _).mono ?_
  rintro e w4 ⟨rfl, hb⟩
  have HB4 := Lib.hid (step_below HB3.out hb)
  clear hb
  go_wp2_with fail
  refine (CS.out _).mono ?_
  rintro e w5 ⟨rfl, hb⟩
  have HB5 := Lib.hid (step_below HB4.out hb)
  clear hb
  go_wp2_with fail
  refine (BA.out _ (HT.out.below HB5.out)).mono ?_
  rintro e w6 ⟨rfl, hb⟩
  have HB6 := Lib.hid (step_below HB5.out hb)
  clear hb
  go_wp2_with fail
  refine (BB.out _ (HT.out.below HB6.out)).mono ?_
  rintro e w7 ⟨rfl, hb⟩
  have HB7 := Lib.hid (step_below HB6.out hb)
  have HB8 := Lib.hid (HB7.out.alloc HB7.out.size (.cells #[.int .i32 r] 21))
  clear hb
  have cp := put_any s (some ⟨w7.heap.size, 0, none⟩) [r] 1 (w7.alloc (.cells #[.int .i32 r] 21)) (by omega) (by simp) (fun _ => ⟨w7.heap.size, 0, rfl, by simp, fun j hj => by
    obtain rfl : j = 0 := by simp at hj; omega
    simp⟩) (fun j hj => by
    obtain rfl : j = 0 := by simp at hj; omega
    exact ⟨hr0, hr1⟩)
  rw [← HZ.out] at cp
  have CP := Lib.hid cp
  clear cp
  go_wp2_with fail
  refine CP.out.mono ?_
  rintro e w8 ⟨rfl, hb⟩
  have HB9 := Lib.hid (step_below HB8.out hb)
  clear hb
  go_wp2_with fail
  refine (CZ.out _).mono ?_
  rintro e w9 ⟨rfl, hb⟩
  have HBa := Lib.hid (step_below HB9.out hb)
  clear hb
  go_wp2_with fail
  refine (CS.out _).mono ?_
  rintro e w10 ⟨rfl, hb⟩
  have HBb := Lib.hid (step_below HBa.out hb)
  clear hb
  go_wp2_with fail
  go_ret
  exact ⟨by simp, HBb.out⟩

theorem i32w {x : Int} (h : (Lit.int .i32 x).wf = true) : -2147483648 ≤ x ∧ x ≤ 2147483647 := by simpa [Lit.wf, IntKind.min, IntKind.max, IntKind.signed, IntKind.bits] using h
theorem runesParts.walk (s : ByteArray) (a r : Int) (w : World) (hT : Tabs w) (hs : s.size ≤ maxLen) (hr0 : -2147483648 ≤ r) (hr1 : r ≤ 2147483647) :
    Calls Tryd.prog 7 #[.string s, .int .i64 a, .int .i32 r] w fun e w' => e = .returned (.bool true) ∧ Below w.heap.size w w' := by
  unfold maxLen at hs
  by_cases h : 2000 < s.size
  · exact runesParts_far s a r w hT (by omega) h
  by_cases hb : badAt s.data.toList = none
  · by_cases ho : a < 0 ∨ s.size < a
    · exact runesParts_no s a r w hT (by omega) hb fun W => begins_out s a W (by omega) ho
    · obtain ⟨n, rfl⟩ : ∃ n : Nat, a = n := ⟨a.toNat, by omega⟩
      by_cases he : n = s.size
      · exact runesParts_yes s n r w hT (by omega) (by omega) hb hr0 hr1 (fun h => by omega) fun W => begins_end s n W (by omega) (by omega)
      · have hy := fun W => begins_any s n W (by omega) (by omega)
        by_cases h2 : gb s n / 64 = 2
        · rw [h2] at hy
          exact runesParts_no s n r w hT (by omega) hb hy
        · rw [show (!(gb s n / 64 == 2)) = true by simp; exact h2] at hy
          exact runesParts_yes s n r w hT (by omega) (by omega) hb hr0 hr1 (fun _ => h2) hy
  · exact runesParts_bad s a r w hT (by omega) hb
end Go.Proofs.YtpbheelocigciaaDoor
