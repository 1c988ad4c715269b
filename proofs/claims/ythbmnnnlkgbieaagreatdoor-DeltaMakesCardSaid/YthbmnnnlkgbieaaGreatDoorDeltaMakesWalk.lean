/- The law DeltaMakes answers true. -/
import Derived.Test.YthbmnnnlkgbieaaGreatDoorMC1
import Derived.Test.YthbmnnnlkgbieaaGreatDoorME1
namespace Go.Proofs.YthbmnnnlkgbieaaGreatDoor
open Go.RowKit

theorem ap_self {u : List ByteArray} {G : List Dl.Gap} (h : Ap u u G) : G = [] := by
  rcases h with h | ⟨p, x, y, hm, rfl, hlt⟩
  · exact h.1.self rfl
  · exfalso
    have hpx : p < x := by
      rcases Nat.lt_or_ge p x with h | h
      · exact h
      · rw [show x - p = 0 by omega] at hlt; simp at hlt
    have hxa : p < u.length := by have := hm.xa; omega
    exact hm.first ⟨u[p], List.getElem?_eq_getElem hxa, List.getElem?_eq_getElem hxa⟩
theorem bete_self {u : List ByteArray} {w w' : World} {e : Ending} (h : BetE u u w e w') : ∃ A cap, e = .returned (.slice A 0 cap) ∧ Below w.heap.size w w' := by
  obtain ⟨G, A, cap, hG, he, _, _, hb⟩ := h
  rw [ap_self hG] at he
  exact ⟨A, cap, he, hb⟩
theorem back_ba (t : ByteArray) : (⟨t.data.toList.toArray⟩ : ByteArray) = t := by simp

set_option maxHeartbeats 4000000 in
set_option maxRecDepth 100000 in
theorem deltaMakes.walk (s t : ByteArray) (w : World) (hT : Tabs w) (hE : Errs w) (hs : s.size ≤ maxLen) (ht : t.size ≤ maxLen) :
    Calls Tryz.prog 3 #[.string s, .string t] w fun e w' => e = .returned (.bool true) ∧ Below w.heap.size w w' := by
  unfold maxLen at hs ht
  have HT := Lib.hid hT
  have HE := Lib.hid hE
  clear hT hE
  go_enter Tryz.func3, Tryz.ntmps3
  go_wp2_with fail
  refine (both_any s t (by omega) (by omega) w).mono ?_
  rintro e w1 ⟨hb, ⟨x, y, rfl⟩ | ⟨la, lb, A, B, ca, cb, hS, hS2, hsz, rfl⟩⟩
  · have C := Lib.hid (awake_any w1 (HT.out.step hb) (HE.out.below hb))
    have HB := Lib.hid hb
    clear hb
    go_wp2_with fail
    refine C.out.mono ?_
    rintro e w2 ⟨rfl, hb2⟩
    have HB2 := Lib.hid (step_below HB.out hb2)
    clear hb2
    go_wp2_with fail
    go_ret
    exact ⟨rfl, HB2.out⟩
  · have HB := Lib.hid hb
    have HS := Lib.hid hS
    have HS2 := Lib.hid hS2
    have C := Lib.hid (bete_any s t la lb A B ca cb w1 hS.1 hS2.1 hS.2.1 hS2.2.1 hS.2.2.1 hS2.2.2.1 hS.2.2.2.1 hS2.2.2.2.1 hS.2.2.2.2 hS2.2.2.2.2)
    clear hb hS hS2
    go_wp2_with fail
    refine C.out.mono ?_
    rintro e w2 ⟨G, X, cx, hG, rfl, hes, hel, hb⟩
    obtain ⟨hsn, hap⟩ := RLex.snd HS.out.1 HS2.out.1 hG
    obtain ⟨es, hes_⟩ : ∃ es, es = edsOf (unitsL la) (unitsL lb) (Dl.few G) := ⟨_, rfl⟩
    rw [← hes_] at hes hel hsn hap
    rw [← hes_]
    have hll : (apd s es).length ≤ 140737488355328 := by
      rw [hap]; have : t.data.toList.length = t.size := rfl; omega
    have c2 := rapply_ok s X cx es w2 hes (by omega) hsn hll (by omega)
    have HAP := Lib.hid hap
    have HES := Lib.hid hes
    have HB2 := Lib.hid (step_below HB.out hb)
    have HS3 := Lib.hid (HS.out.below hb)
    have HSN := Lib.hid hsn
    have HLL := Lib.hid hll
    have HEL := Lib.hid hel
    rw [hap, back_ba] at c2
    have C2 := Lib.hid c2
    clear c2 hap hes hb hsn hll hel hes_ C
    go_wp2_with fail
    refine C2.out.mono ?_
    rintro e w3 ⟨rfl, hb⟩
    have c3 := apply_ok s X cx es w3 ((HES.out.below hb).more hb.size) (by have := HEL.out; omega) HSN.out HLL.out
    rw [HAP.out, back_ba] at c3
    have C3 := Lib.hid c3
    have HB3 := Lib.hid (step_below HB2.out hb)
    have HS4 := Lib.hid (HS3.out.below hb)
    clear c3 hb C2
    go_wp2_with fail
    refine C3.out.mono ?_
    rintro e w4 ⟨rfl, hb⟩
    have HB4 := Lib.hid (step_below HB3.out hb)
    have HS5 := Lib.hid (HS4.out.below hb)
    have C4 := Lib.hid (awake_any w4 (HT.out.step HB4.out) (HE.out.below HB4.out))
    clear hb C3
    go_wp2_with fail
    refine C4.out.mono ?_
    rintro e w5 ⟨rfl, hb⟩
    have HB5 := Lib.hid (step_below HB4.out hb)
    have HS6 := HS5.out.below hb
    have C5 := Lib.hid (bete_any s s la la A A ca ca w5 HS6.1 HS6.1 HS6.2.1 HS6.2.1 HS6.2.2.1 HS6.2.2.1 HS6.2.2.2.1 HS6.2.2.2.1 HS6.2.2.2.2 HS6.2.2.2.2)
    clear hb HS6 C4
    go_wp2_with fail
    refine C5.out.mono ?_
    rintro e w6 hbe
    obtain ⟨A', c', rfl, hb⟩ := bete_self hbe
    have HB6 := Lib.hid (step_below HB5.out hb)
    clear hb hbe C5
    go_wp2_with fail
    go_ret
    exact ⟨by simp, HB6.out⟩
end Go.Proofs.YthbmnnnlkgbieaaGreatDoor
