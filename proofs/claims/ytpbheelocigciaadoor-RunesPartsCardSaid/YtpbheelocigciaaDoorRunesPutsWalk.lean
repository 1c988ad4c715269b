/- The law RunesPuts returns true, whatever it is given. -/
import Derived.Test.YtpbheelocigciaaDoorAW
import Derived.Test.YtpbheelocigciaaDoorRP
namespace Go.Proofs.YtpbheelocigciaaDoor
open Go.RowKit
open Go.Lib (encodeRune runeCells)

set_option maxHeartbeats 1000000 in
set_option maxRecDepth 100000 in
theorem runesPuts_far (s : ByteArray) (A : Option Addr) (rs : List Int) (cap : Nat) (w : World) (hT : Tabs w) (hs : (s.size : Int) ≤ 9223372036854775807) (ht : (rs.length : Int) ≤ 9223372036854775807) (hl : 1000 < s.size ∨ 500 < rs.length) :
    Calls Tryd.prog 4 #[.string s, .slice A rs.length cap] w fun e w' => e = .returned (.bool true) ∧ Below w.heap.size w w' := by
  have C := Lib.hid (awake_any w hT)
  clear hT
  by_cases h : 1000 < s.size
  · have hz : (s.size : Int) > 1000 := by omega
    clear hl
    go_enter Tryd.func4, Tryd.ntmps4
    go_wp2_with fail
    refine C.out.mono ?_
    rintro e w1 ⟨rfl, hb⟩
    have HB := Lib.hid hb
    clear hb
    go_wp2_with fail
    go_ret
    exact ⟨rfl, HB.out⟩
  · have hz : ¬ (s.size : Int) > 1000 := by omega
    have hy : (rs.length : Int) > 500 := by omega
    clear hl
    go_enter Tryd.func4, Tryd.ntmps4
    go_wp2_with fail
    refine C.out.mono ?_
    rintro e w1 ⟨rfl, hb⟩
    have HB := Lib.hid hb
    clear hb
    go_wp2_with fail
    go_ret
    exact ⟨rfl, HB.out⟩

theorem enc_size (r : Int) : (⟨(encodeRune r).toArray⟩ : ByteArray).size ≤ 4 := by
  have h := (Lib.encodeRuneZ_length r).2
  show (encodeRune r).toArray.size ≤ 4
  rw [List.size_toArray, enc_len]
  exact h
theorem Tabs.below {w w' : World} (h : Tabs w) (hb : Below w.heap.size w w') : Tabs w' := Utf8Tabs_below h hb

set_option maxHeartbeats 4000000 in
set_option maxRecDepth 100000 in
theorem runesPuts_near (s : ByteArray) (A : Option Addr) (rs : List Int) (cap : Nat) (w : World) (hT : Tabs w) (hA : Runes w w.heap.size A rs) (hi : I32 rs) (hs : s.size ≤ 1000) (ht : rs.length ≤ 500) :
    Calls Tryd.prog 4 #[.string s, .slice A rs.length cap] w fun e w' => e = .returned (.bool true) ∧ Below w.heap.size w w' := by
  have hz : ¬ (s.size : Int) > 1000 := by omega
  have hy : ¬ (rs.length : Int) > 500 := by omega
  have HT := Lib.hid hT
  have HA := Lib.hid hA
  have HI := Lib.hid hi
  clear hT hA hi
  go_enter Tryd.func4, Tryd.ntmps4
  go_wp2_with fail
  go_loopg [5, 22] rs.length (fun kx x a wr => ∃ (k : Nat) (O : ByteArray), .string O = x ∧ a = .int .i64 k ∧ k ≤ rs.length ∧ rs.length - k ≤ kx ∧ O.size ≤ 1000 + 4 * k ∧ Hid (O.data.toList = s.data.toList ++ encs (rs.take k)) ∧ Hid (Below w.heap.size w wr))
  case atStart => exact ⟨0, _, rfl, rfl, by omega, by omega, by omega, by show _ = _; rw [List.take_zero]; simp [encs], Below.refl _ _⟩
  case round =>
    obtain ⟨k, O, rfl, rfl, hk, hkx, hO, HO, HB⟩ := hrel
    by_cases hlt : k < rs.length
    · have hlz : (k : Int) < (rs.length : Int) := by omega
      obtain ⟨b, o, rfl, hbB, hcells⟩ := HA.out (by omega)
      have hcell : wr.cell? ⟨b, o + k, none⟩ = some (.int .i32 (rs.getD k 0)) := (HB.out.cell (p := ⟨b, o + k, none⟩) hbB).trans (hcells k hlt)
      obtain ⟨r, hr'⟩ : ∃ r, r = rs.getD k 0 := ⟨_, rfl⟩
      obtain ⟨r0, r1⟩ := HI.out k hlt
      rw [← hr'] at hcell r0 r1
      have c := rput_any r r0 r1 wr
      have hsz := enc_size r
      obtain ⟨q, hq⟩ : ∃ q, (⟨(encodeRune r).toArray⟩ : ByteArray) = q := ⟨_, rfl⟩
      rw [hq] at c hsz
      have HN : Hid ((O ++ q).data.toList = s.data.toList ++ encs (rs.take (k + 1))) := by
        show _ = _
        rw [app_list, HO.out, encs_take rs k hlt, ← hr', ← hq, List.append_assoc]
      have hON : (O ++ q).size ≤ 1000 + 4 * (k + 1) := by rw [ByteArray.size_append]; omega
      have C := Lib.hid c
      have HON := Lib.hid hON
      clear hcells hr' hq c hON
      go_wp2_with fail
      refine C.out.mono ?_
      rintro e w1 ⟨rfl, hb⟩
      have HB1 := Lib.hid (HB.out.trans (hb.mono HB.out.size))
      clear hb
      go_wp2_with fail
      go_roundg (rs.length - (k + 1))
      case measure => omega
      case rel => exact ⟨k + 1, _, rfl, by go_num, by omega, by omega, HON.out, HN, HB1.out⟩
    · obtain rfl : k = rs.length := by omega
      have hlz : ¬ (rs.length : Int) < (rs.length : Int) := by omega
      have hO2 := HO.out
      rw [List.take_of_length_le (Nat.le_refl _)] at hO2
      have e1 : (⟨(s.data.toList ++ encs rs).toArray⟩ : ByteArray) = O := bytes_ext (by rw [← hO2])
      have HA1 := Lib.hid (HA.out.below HB.out)
      have c1 := put_any s A rs cap wr (by omega) (by omega) (fun h => by
        obtain ⟨b, o, e, hb, hc⟩ := HA1.out h
        exact ⟨b, o, e, Nat.lt_of_lt_of_le hb HB.out.size, hc⟩) HI.out
      rw [e1] at c1
      obtain ⟨q, hq⟩ : ∃ q, (⟨(encs rs).toArray⟩ : ByteArray) = q := ⟨_, rfl⟩
      have hql : q.data.toList = encs rs := by rw [← hq]
      have hqs : q.size ≤ 2000 := by have := encs_len rs; rw [← len_list, hql]; omega
      obtain ⟨hbad, hcnt⟩ := enc_all rs
      rw [← hql] at hbad hcnt
      have c2 := fun w hw => bad_any q w hw (by omega)
      rw [badI_none hbad] at c2
      have c3 := fun w => count_any q w (by omega)
      rw [hcnt] at c3
      have C1 := Lib.hid c1
      have C2 := Lib.hid c2
      have C3 := Lib.hid c3
      have HQ := Lib.hid hq
      clear c1 c2 c3 hO2 e1 hq hql hbad hcnt hlt hO
      go_wp2_with fail
      refine C1.out.mono ?_
      rintro e w1 ⟨rfl, hb⟩
      have HB1 := Lib.hid (step_below HB.out hb)
      clear hb
      have c4 := put_any ⟨#[]⟩ A rs cap w1 (by decide) (by omega) (fun h => by
        obtain ⟨b, o, e, hb, hc⟩ := (HA.out.below HB1.out) h
        exact ⟨b, o, e, Nat.lt_of_lt_of_le hb HB1.out.size, hc⟩) HI.out
      rw [show (⟨((ByteArray.mk #[]).data.toList ++ encs rs).toArray⟩ : ByteArray) = q by rw [← HQ.out]; rfl] at c4
      have C4 := Lib.hid c4
      clear c4
      go_wp2_with fail
      refine C4.out.mono ?_
      rintro e w2 ⟨rfl, hb⟩
      have HB2 := Lib.hid (step_below HB1.out hb)
      clear hb
      go_wp2_with fail
      refine (awake_any _ (HT.out.below HB2.out)).mono ?_
      rintro e w3 ⟨rfl, hb⟩
      have HB3 := Lib.hid (step_below HB2.out hb)
      clear hb
      go_wp2_with fail
      refine (C2.out _ (HT.out.below HB3.out)).mono ?_
      rintro e w4 ⟨rfl, hb⟩
      have HB4 := Lib.hid (step_below HB3.out hb)
      clear hb
      go_wp2_with fail
      refine (C3.out _).mono ?_
      rintro e w5 ⟨rfl, hb⟩
      have HB5 := Lib.hid (step_below HB4.out hb)
      clear hb
      go_wp2_with fail
      go_ret
      exact ⟨rfl, HB5.out⟩
theorem runesPuts.walk (s : ByteArray) (A : Option Addr) (rs : List Int) (cap : Nat) (w : World) (hT : Tabs w) (hs : s.size ≤ maxLen) (hA : Runes w w.heap.size A rs) (hi : I32 rs) (hl : rs.length ≤ maxLen) :
    Calls Tryd.prog 4 #[.string s, .slice A rs.length cap] w fun e w' => e = .returned (.bool true) ∧ Below w.heap.size w w' := by
  unfold maxLen at hs hl
  by_cases h : 1000 < s.size ∨ 500 < rs.length
  · exact runesPuts_far s A rs cap w hT (by omega) (by omega) h
  · exact runesPuts_near s A rs cap w hT hA hi (by omega) (by omega)
end Go.Proofs.YtpbheelocigciaaDoor
