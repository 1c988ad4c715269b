/- The law EditBoth returns true, whatever it is given. -/
import Derived.Test.YtendbkbjmibchaaCO
import Derived.Test.YtendbkbjmibchaaEditDoesWalk
namespace Go.Proofs.Ytendbkbjmibchaa
open Go.RowKit

theorem light_tot {n : Nat} {es : List Ed} (h : lightB n es = true) : tot es ≤ 3000 := by
  rcases (light_len h).2 with rfl | h2
  · simp [tot]
  · omega
/-- Apply, whatever it answers. -/
theorem apply_some (s : ByteArray) (A : Option Addr) (cap : Nat) (es : List Ed) (hl : es.length ≤ 100000) (hz : s.size + tot es ≤ 140737488355328) :
    ∃ t : ByteArray, ∀ w, Eds w w.heap.size A es → Calls Try.prog 33 #[.string s, .slice A es.length cap] w fun e w' => e = .returned (.tuple #[.string t, .int .i64 (snd es s.size)]) ∧ Below w.heap.size w w' := by
  by_cases hs : snd es s.size = 0
  · refine ⟨⟨(apd s es).toArray⟩, fun w h => ?_⟩
    rw [hs]
    exact apply_ok s A cap es w h hl hs (by have := apd_len s es hs; omega)
  · exact ⟨⟨#[]⟩, fun w h => apply_no s A cap es w h hl hs⟩
/-- Two lists that are light beside one text. -/
theorem light_both {n : Nat} {a b : List Ed} (h : lightB n a = true) (g : lightB n b = true) (hn : n ≤ 140737488351232) : n + tot a + tot b ≤ 140737488355328 := by
  have := light_tot g
  rcases (light_len h).2 with rfl | h2
  · simp only [tot]; omega
  · omega

set_option maxHeartbeats 4000000 in
theorem editBoth_walk (s : ByteArray) (A1 A2 : Option Addr) (c1 c2 : Nat) (a b : List Ed) (w : World) (ha : Eds w w.heap.size A1 a) (hla : a.length ≤ maxLen) (hb : Eds w w.heap.size A2 b) (hlb : b.length ≤ maxLen) (hm : s.size ≤ 140737488351232) (hxa : ∀ e ∈ a, e.x.size ≤ 140737488351232) (hxb : ∀ e ∈ b, e.x.size ≤ 140737488351232) :
    Calls Try.prog 10 #[.string s, .slice A1 a.length c1, .slice A2 b.length c2] w fun e w' => e = .returned (.bool true) ∧ Below w.heap.size w w' := by
  unfold maxLen at hla hlb
  have HA := Lib.hid ha
  have HBE := Lib.hid hb
  have HXA : Hid (∀ e ∈ a, e.x.size ≤ 1000000000000000) := fun e he => by have := hxa e he; omega
  have HXB : Hid (∀ e ∈ b, e.x.size ≤ 1000000000000000) := fun e he => by have := hxb e he; omega
  clear ha hb hxa hxb
  cases hL : lightB s.size a
  · have HL := Lib.hid hL
    clear hL
    go_enter Try.func10, Try.ntmps10
    go_wp2_with fail
    refine (light_any s A1 c1 a _ HA.out hla (by omega) HXA.out).mono ?_
    rintro e w1 ⟨rfl, hb⟩
    rw [HL.out]
    have HB := Lib.hid hb
    clear hb
    go_wp2_with fail
    refine (awake_edit _).mono ?_
    rintro e w2 ⟨rfl, hb⟩
    have HB2 := Lib.hid (HB.out.trans (hb.mono HB.out.size))
    clear hb
    go_wp2
    go_ret
    exact ⟨rfl, HB2.out⟩
  · have HL := Lib.hid hL
    have hl6 := (light_len hL).1
    have ht6 := light_tot hL
    clear hL
    cases hL2 : lightB s.size b
    · have HL2 := Lib.hid hL2
      clear hL2
      go_enter Try.func10, Try.ntmps10
      go_wp2_with fail
      refine (light_any s A1 c1 a _ HA.out (by omega) (by omega) HXA.out).mono ?_
      rintro e w1 ⟨rfl, hb⟩
      rw [HL.out]
      have HB := Lib.hid hb
      have HE1 := Lib.hid ((HBE.out.below hb).more hb.size)
      clear hb
      go_wp2_with fail
      refine (light_any s A2 c2 b _ HE1.out (by omega) (by omega) HXB.out).mono ?_
      rintro e w2 ⟨rfl, hb⟩
      rw [HL2.out]
      have HB2 := Lib.hid (HB.out.trans (hb.mono HB.out.size))
      clear hb
      go_wp2_with fail
      refine (awake_edit _).mono ?_
      rintro e w3 ⟨rfl, hb⟩
      have HB3 := Lib.hid (HB2.out.trans (hb.mono HB2.out.size))
      clear hb
      go_wp2
      go_ret
      exact ⟨rfl, HB3.out⟩
    · have HL2 := Lib.hid hL2
      have hl7 := (light_len hL2).1
      have ht7 := light_tot hL2
      have htt := light_both HL.out hL2 hm
      clear hL2
      by_cases h500 : (500 : Int) < (a.length : Int) + (b.length : Int)
      · go_enter Try.func10, Try.ntmps10
        go_wp2_with fail
        refine (light_any s A1 c1 a _ HA.out (by omega) (by omega) HXA.out).mono ?_
        rintro e w1 ⟨rfl, hb⟩
        rw [HL.out]
        have HB := Lib.hid hb
        have HE1 := Lib.hid ((HBE.out.below hb).more hb.size)
        clear hb
        go_wp2_with fail
        refine (light_any s A2 c2 b _ HE1.out (by omega) (by omega) HXB.out).mono ?_
        rintro e w2 ⟨rfl, hb⟩
        rw [HL2.out]
        have HB2 := Lib.hid (HB.out.trans (hb.mono HB.out.size))
        clear hb
        go_wp2_with fail
        refine (awake_edit _).mono ?_
        rintro e w3 ⟨rfl, hb⟩
        have HB3 := Lib.hid (HB2.out.trans (hb.mono HB2.out.size))
        clear hb
        go_wp2
        go_ret
        exact ⟨rfl, HB3.out⟩
      · have h500' : (a.length : Int) + (b.length : Int) ≤ 500 := by omega
        have h500d : decide ((500 : Int) < (a.length : Int) + (b.length : Int)) = false := decide_eq_false h500
        clear h500
        by_cases hs : snd a s.size = 0
        · have HS := Lib.hid hs
          have hXl := apd_len s a hs
          obtain ⟨X, hX⟩ : ∃ X : ByteArray, X = ⟨(apd s a).toArray⟩ := ⟨_, rfl⟩
          have hXs : X.size = (apd s a).length := by rw [hX]; simp [ByteArray.size]
          have hG : (s.size : Int) + grows a = X.size := by
            have := apd_grows s a none 0 (by omega) (by omega) (.inl ⟨rfl, rfl⟩) (snd_go hs).2
            rw [hXs]; unfold apd; omega
          have HX := Lib.hid hX
          have HG := Lib.hid hG
          have HXL : Hid ((apd s a).length ≤ 140737488355328) := by unfold Hid; omega
          clear hs hG
          by_cases hs2 : snd b X.size = 0
          · have HS2 := Lib.hid hs2
            have hYl := apd_len X b hs2
            obtain ⟨o1, o2⟩ := cmpd_ok s a b HS.out (by rw [← hXs]; exact hs2) (by omega)
            rw [← hX] at o2
            have hCl := len_cmpd a b s.size
            have HO1 := Lib.hid o1
            have HO2 := Lib.hid o2
            have HYL : Hid ((apd X b).length ≤ 140737488355328) := by unfold Hid; omega
            have HYL2 : Hid ((apd s (cmpd a b s.size)).length ≤ 140737488355328) := by unfold Hid; rw [o2]; omega
            clear hX hs2 o1 o2 hXl hYl hXs
            go_enter Try.func10, Try.ntmps10
            go_wp2_with fail
            refine (light_any s A1 c1 a _ HA.out (by omega) (by omega) HXA.out).mono ?_
            rintro e w1 ⟨rfl, hb⟩
            rw [HL.out]
            have HB := Lib.hid hb
            clear hb
            go_wp2_with fail
            refine (light_any s A2 c2 b _ ((HBE.out.below HB.out).more HB.out.size) (by omega) (by omega) HXB.out).mono ?_
            rintro e w2 ⟨rfl, hb⟩
            rw [HL2.out]
            have HB2 := Lib.hid (HB.out.trans (hb.mono HB.out.size))
            clear hb
            go_wp2_with fail
            refine (apply_ok s A1 c1 a _ ((HA.out.below HB2.out).more HB2.out.size) (by omega) HS.out HXL.out).mono ?_
            rintro e w3 ⟨rfl, hb⟩
            rw [← HX.out]
            have HB3 := Lib.hid (HB2.out.trans (hb.mono HB2.out.size))
            clear hb
            go_wp2_with fail
            refine (apply_ok X A2 c2 b _ ((HBE.out.below HB3.out).more HB3.out.size) (by omega) HS2.out HYL.out).mono ?_
            rintro e w4 ⟨rfl, hb⟩
            have HB4 := Lib.hid (HB3.out.trans (hb.mono HB3.out.size))
            clear hb
            go_wp2_with fail
            refine (compose_ok A1 A2 c1 c2 a b s.size _ (by omega) (by omega) ((HA.out.below HB4.out).more HB4.out.size) ((HBE.out.below HB4.out).more HB4.out.size) HS.out (by omega) (by rw [HG.out]; exact HS2.out)).mono ?_
            rintro e w5 ⟨A', c', rfl, hE, hb⟩
            have HE5 := Lib.hid hE
            have HB5 := Lib.hid (HB4.out.trans (hb.mono HB4.out.size))
            clear hb hE
            go_wp2_with fail
            refine (apply_ok s A' c' (cmpd a b s.size) _ HE5.out (by omega) HO1.out HYL2.out).mono ?_
            rintro e w6 ⟨rfl, hb⟩
            rw [HO2.out]
            have HB6 := Lib.hid (HB5.out.trans (hb.mono HB5.out.size))
            clear hb
            go_wp2_with fail
            refine (compose_neg A1 A2 c1 c2 a b (-1) _ (by omega)).mono ?_
            rintro e w7 ⟨rfl, hb⟩
            have HB7 := Lib.hid (HB6.out.trans (hb.mono HB6.out.size))
            clear hb
            go_wp2_with fail
            refine (awake_edit _).mono ?_
            rintro e w8 ⟨rfl, hb⟩
            have HB8 := Lib.hid (HB7.out.trans (hb.mono HB7.out.size))
            clear hb
            go_wp2
            go_ret
            exact ⟨rfl, HB8.out⟩
          · have HS2 := Lib.hid hs2
            have g2 : (snd b X.size == 0) = false := by simpa using hs2
            have HS3 : Hid (snd b (s.size + grows a) ≠ 0) := by unfold Hid; rw [HG.out]; exact hs2
            clear hX hs2 hXl hXs
            go_enter Try.func10, Try.ntmps10
            go_wp2_with fail
            refine (light_any s A1 c1 a _ HA.out (by omega) (by omega) HXA.out).mono ?_
            rintro e w1 ⟨rfl, hb⟩
            rw [HL.out]
            have HB := Lib.hid hb
            clear hb
            go_wp2_with fail
            refine (light_any s A2 c2 b _ ((HBE.out.below HB.out).more HB.out.size) (by omega) (by omega) HXB.out).mono ?_
            rintro e w2 ⟨rfl, hb⟩
            rw [HL2.out]
            have HB2 := Lib.hid (HB.out.trans (hb.mono HB.out.size))
            clear hb
            go_wp2_with fail
            refine (apply_ok s A1 c1 a _ ((HA.out.below HB2.out).more HB2.out.size) (by omega) HS.out HXL.out).mono ?_
            rintro e w3 ⟨rfl, hb⟩
            rw [← HX.out]
            have HB3 := Lib.hid (HB2.out.trans (hb.mono HB2.out.size))
            clear hb
            go_wp2_with fail
            refine (apply_no X A2 c2 b _ ((HBE.out.below HB3.out).more HB3.out.size) (by omega) HS2.out).mono ?_
            rintro e w4 ⟨rfl, hb⟩
            have HB4 := Lib.hid (HB3.out.trans (hb.mono HB3.out.size))
            clear hb
            go_wp2_with fail
            refine (compose_no2 A1 A2 c1 c2 a b s.size _ (by omega) (by omega) ((HA.out.below HB4.out).more HB4.out.size) ((HBE.out.below HB4.out).more HB4.out.size) (by omega) HS.out (by omega) HXA.out HS3.out).mono ?_
            rintro e w5 ⟨rfl, hb⟩
            rw [HG.out]
            have HB5 := Lib.hid (HB4.out.trans (hb.mono HB4.out.size))
            clear hb
            go_wp2_with fail
            refine (awake_edit _).mono ?_
            rintro e w6 ⟨rfl, hb⟩
            have HB6 := Lib.hid (HB5.out.trans (hb.mono HB5.out.size))
            clear hb
            go_wp2
            go_ret
            exact ⟨rfl, HB6.out⟩
        · have HS := Lib.hid hs
          have g1 : (snd a s.size == 0) = false := by simpa using hs
          obtain ⟨t, hT⟩ := apply_some ⟨#[]⟩ A2 c2 b (by omega) (by show 0 + tot b ≤ _; omega)
          have HT := Lib.hid hT
          clear hs hT
          go_enter Try.func10, Try.ntmps10
          go_wp2_with fail
          refine (light_any s A1 c1 a _ HA.out (by omega) (by omega) HXA.out).mono ?_
          rintro e w1 ⟨rfl, hb⟩
          rw [HL.out]
          have HB := Lib.hid hb
          clear hb
          go_wp2_with fail
          refine (light_any s A2 c2 b _ ((HBE.out.below HB.out).more HB.out.size) (by omega) (by omega) HXB.out).mono ?_
          rintro e w2 ⟨rfl, hb⟩
          rw [HL2.out]
          have HB2 := Lib.hid (HB.out.trans (hb.mono HB.out.size))
          clear hb
          go_wp2_with fail
          refine (apply_no s A1 c1 a _ ((HA.out.below HB2.out).more HB2.out.size) (by omega) HS.out).mono ?_
          rintro e w3 ⟨rfl, hb⟩
          have HB3 := Lib.hid (HB2.out.trans (hb.mono HB2.out.size))
          clear hb
          go_wp2_with fail
          refine (HT.out _ ((HBE.out.below HB3.out).more HB3.out.size)).mono ?_
          rintro e w4 ⟨rfl, hb⟩
          have HB4 := Lib.hid (HB3.out.trans (hb.mono HB3.out.size))
          clear hb
          go_wp2_with fail
          refine (compose_no1 A1 A2 c1 c2 a b s.size _ (by omega) ((HA.out.below HB4.out).more HB4.out.size) (by omega) HS.out).mono ?_
          rintro e w5 ⟨rfl, hb⟩
          have HB5 := Lib.hid (HB4.out.trans (hb.mono HB4.out.size))
          clear hb
          go_wp2_with fail
          refine (awake_edit _).mono ?_
          rintro e w6 ⟨rfl, hb⟩
          have HB6 := Lib.hid (HB5.out.trans (hb.mono HB5.out.size))
          clear hb
          go_wp2
          go_ret
          exact ⟨rfl, HB6.out⟩
end Go.Proofs.Ytendbkbjmibchaa
