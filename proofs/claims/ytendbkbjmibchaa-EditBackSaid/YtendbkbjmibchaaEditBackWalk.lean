/- The law EditBack returns true, whatever it is given. -/
import Derived.Test.YtendbkbjmibchaaIV
namespace Go.Proofs.Ytendbkbjmibchaa
open Go.RowKit

set_option maxHeartbeats 2000000 in
theorem editBack_walk (s : ByteArray) (A : Option Addr) (cap : Nat) (es : List Ed) (w : World) (hes : Eds w w.heap.size A es) (hlm : es.length ≤ maxLen) (hm : s.size ≤ 140737488351232) (hx : ∀ e ∈ es, e.x.size ≤ 140737488351232) :
    Calls Try.prog 9 #[.string s, .slice A es.length cap] w fun e w' => e = .returned (.bool true) ∧ Below w.heap.size w w' := by
  unfold maxLen at hlm
  have HES := Lib.hid hes
  have HX := Lib.hid hx
  have HX' : Hid (∀ e ∈ es, e.x.size ≤ 1000000000000000) := fun e he => by have := HX.out e he; omega
  clear hes hx
  cases hL : lightB s.size es
  · have HL := Lib.hid hL
    clear hL
    go_enter Try.func9, Try.ntmps9
    go_wp2_with fail
    refine (light_any s A cap es _ HES.out hlm (by omega) HX'.out).mono ?_
    rintro e w1 ⟨rfl, hb⟩
    rw [HL.out]
    have HB := Lib.hid hb
    clear hb
    go_wp2_with fail
    refine (awake_edit _).mono ?_
    rintro e w2 ⟨rfl, hb⟩
    have HB2 := Lib.hid (HB.out.trans (hb.mono HB.out.size))
    clear hb
    go_wp2
    go_ret
    exact ⟨rfl, HB2.out⟩
  · have HL := Lib.hid hL
    have hl6 := (light_len hL).1
    by_cases hs : snd es s.size = 0
    · have HS := Lib.hid hs
      have HA := Lib.hid (light_apd hL hm hs)
      obtain ⟨X, hX⟩ : ∃ X : ByteArray, X = ⟨(apd s es).toArray⟩ := ⟨_, rfl⟩
      have hXs : X.size = (apd s es).length := by rw [hX]; simp [ByteArray.size]
      have hXm : X.size ≤ 140737488355328 := by rw [hXs]; exact HA.out
      have hG : (X.size : Int) - s.size = grows es := by
        have := apd_grows s es none 0 (by omega) (by omega) (.inl ⟨rfl, rfl⟩) (snd_go hs).2
        rw [hXs]; unfold apd; omega
      have HG := Lib.hid hG
      obtain ⟨hI1, hI2⟩ := inv_apd s es hs
      have hI1 : snd (inv s 0 es) X.size = 0 := by rw [hX]; exact hI1
      rw [← hX] at hI2
      have hY : (⟨(apd X (inv s 0 es)).toArray⟩ : ByteArray) = s := by rw [hI2]
      have HXX := Lib.hid hX
      have HI1 := Lib.hid hI1
      have HI2 := Lib.hid hI2
      have HY := Lib.hid hY
      have hil := inv_len s es 0
      have HA2 : Hid ((apd X (inv s 0 es)).length ≤ 140737488355328) := by unfold Hid; rw [hI2, Array.length_toList]; show s.size ≤ _; omega
      have HA3 : Hid (∀ e ∈ es, 0 ≤ e.f ∧ e.f ≤ e.t ∧ e.t ≤ s.size) := snd_all _ es _ (snd_go hs).2
      clear hX hG hI1 hI2 hY hs hL
      go_enter Try.func9, Try.ntmps9
      go_wp2_with fail
      refine (light_any s A cap es _ HES.out (by omega) (by omega) HX'.out).mono ?_
      rintro e w1 ⟨rfl, hb⟩
      rw [HL.out]
      have HB := Lib.hid hb
      have HE1 := Lib.hid ((HES.out.below hb).more hb.size)
      clear hb
      go_wp2_with fail
      refine (apply_ok s A cap es _ HE1.out (by omega) HS.out HA.out).mono ?_
      rintro e w2 ⟨rfl, hb⟩
      rw [← HXX.out]
      have HB2 := Lib.hid (HB.out.trans (hb.mono HB.out.size))
      have HE2 := Lib.hid ((HE1.out.below hb).more hb.size)
      clear hb
      go_wp2_with fail
      refine (invert_ok s A cap es _ HE2.out HS.out (by omega) HX'.out).mono ?_
      rintro e w3 ⟨A', cap', rfl, hI, hb⟩
      have HB3 := Lib.hid (HB2.out.trans (hb.mono HB2.out.size))
      have HE3 := Lib.hid ((HE2.out.below hb).more hb.size)
      have HI3 := Lib.hid hI
      clear hb hI
      go_wp2_with fail
      rw [← hil]
      refine (apply_ok X A' cap' (inv s 0 es) _ HI3.out (by omega) HI1.out HA2.out).mono ?_
      rw [hil]
      rintro e w4 ⟨rfl, hb⟩
      rw [HY.out]
      have HB4 := Lib.hid (HB3.out.trans (hb.mono HB3.out.size))
      have HE4 := Lib.hid ((HE3.out.below hb).more hb.size)
      clear hb
      go_wp2_with fail
      refine (awake_edit _).mono ?_
      rintro e w5 ⟨rfl, hb⟩
      have HB5 := Lib.hid (HB4.out.trans (hb.mono HB4.out.size))
      have HE5 := Lib.hid ((HE4.out.below hb).more hb.size)
      clear hb
      go_wp2_with fail
      refine (grows_any A cap es s.size _ HE5.out hl6 HA3.out (by omega) HX'.out).mono ?_
      rintro e w6 ⟨rfl, hb⟩
      have HB6 := Lib.hid (HB5.out.trans (hb.mono HB5.out.size))
      clear hb
      rw [← HG.out]
      go_wp2
      go_ret
      exact ⟨rfl, HB6.out⟩
    · have HS := Lib.hid hs
      have g : (snd es s.size == 0) = false := by simpa using hs
      clear hs hL
      go_enter Try.func9, Try.ntmps9
      go_wp2_with fail
      refine (light_any s A cap es _ HES.out (by omega) (by omega) HX'.out).mono ?_
      rintro e w1 ⟨rfl, hb⟩
      rw [HL.out]
      have HB := Lib.hid hb
      have HE1 := Lib.hid ((HES.out.below hb).more hb.size)
      clear hb
      go_wp2_with fail
      refine (apply_no s A cap es _ HE1.out (by omega) HS.out).mono ?_
      rintro e w2 ⟨rfl, hb⟩
      have HB2 := Lib.hid (HB.out.trans (hb.mono HB.out.size))
      have HE2 := Lib.hid ((HE1.out.below hb).more hb.size)
      clear hb
      go_wp2_with fail
      refine (invert_no s A cap es _ HE2.out (by omega) HS.out).mono ?_
      rintro e w3 ⟨rfl, hb⟩
      have HB3 := Lib.hid (HB2.out.trans (hb.mono HB2.out.size))
      have HE3 := Lib.hid ((HE2.out.below hb).more hb.size)
      clear hb
      go_wp2_with fail
      refine (awake_edit _).mono ?_
      rintro e w4 ⟨rfl, hb⟩
      have HB4 := Lib.hid (HB3.out.trans (hb.mono HB3.out.size))
      have HE4 := Lib.hid ((HE3.out.below hb).more hb.size)
      clear hb
      go_wp2_with fail
      refine (rsound_edits A cap es s.size _ HE4.out (by omega)).mono ?_
      rintro e w5 ⟨rfl, hb⟩
      have HB5 := Lib.hid (HB4.out.trans (hb.mono HB4.out.size))
      clear hb
      go_wp2
      go_ret
      exact ⟨rfl, HB5.out⟩
end Go.Proofs.Ytendbkbjmibchaa
