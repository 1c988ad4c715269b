/- The walk of the law TokenAgain. -/
import Derived.Test.YtpbheelocigciaaDoorAGB
import Derived.IntWalk
namespace Go.Proofs.YtpbheelocigciaaDoor
open Go.RowKit

set_option maxHeartbeats 8000000 in
set_option maxRecDepth 100000 in
theorem tokenAgain.walk (s t : ByteArray) (w : World) (hT : Tabs w) (hE : Errs w) (hs : s.size ≤ maxLen) (ht : t.size ≤ maxLen) :
    Calls Tryd.prog 10 #[.string s, .string t] w fun e w' => e = .returned (.bool true) ∧ Below w.heap.size w w' := by
  unfold maxLen at hs ht
  have C := Lib.hid (lext_any s (by omega) w hT hE)
  have HT := Lib.hid hT
  have HE := Lib.hid hE
  clear hT hE
  go_enter Tryd.func10, Tryd.ntmps10
  go_wp2_with fail
  refine C.out.mono ?_
  rintro e w1 ⟨hb, h⟩
  have HB := Lib.hid hb
  clear hb
  cases hr : lexR s with
  | bad er a =>
    rw [hr] at h
    subst h
    have hne := lexR_bad hr
    have z1 : (er != 0) = true := by simpa using hne
    clear hr hne
    go_wp2_with fail
    refine (lext_any t (by omega) _ (HT.out.step HB.out) (HE.out.below HB.out)).mono ?_
    rintro e w2 ⟨hb, h⟩
    have HB2 := Lib.hid (step_below HB.out hb)
    clear hb
    obtain ⟨v1, v2, v3, rfl⟩ : ∃ v1 v2 v3, e = .returned (.tuple #[v1, .int .i64 v2, .int .i64 v3]) := by
      cases hq : lexR t with
      | bad e2 a2 => rw [hq] at h; exact ⟨_, _, _, h⟩
      | good l => rw [hq] at h; obtain ⟨A, cap, h, _⟩ := h; exact ⟨_, _, _, h⟩
    clear h
    go_wp2_with fail
    refine (awake4_any _ (HT.out.step HB2.out) (HE.out.below HB2.out)).mono ?_
    rintro e w3 ⟨rfl, hb⟩
    have HB3 := Lib.hid (step_below HB2.out hb)
    clear hb
    go_wp2_with fail
    go_ret
    exact ⟨by simp, HB3.out⟩
  | good la =>
    rw [hr] at h
    obtain ⟨A, capA, rfl, hta, hl4, hcapA⟩ := h
    obtain ⟨⟨_, ga, _⟩, hsz⟩ := lexR_good hr
    obtain ⟨NA, hNA⟩ : ∃ N, N = la.length := ⟨_, rfl⟩
    have HTA := Lib.hid hta
    have HRA := Lib.hid hr
    have HNA := Lib.hid hNA
    have hNA0 : 0 < NA := by omega
    have hNA4 : NA ≤ 4000 := by omega
    have hNAc : NA ≤ capA := by have := hcapA (by omega); omega
    rw [← hNA]
    clear hr hta hcapA ga hNA hl4
    go_wp2_with fail
    refine (lext_any t (by omega) _ (HT.out.step HB.out) (HE.out.below HB.out)).mono ?_
    rintro e w2 ⟨hb, h⟩
    have HB2 := Lib.hid (step_below HB.out hb)
    have HTA2 := Lib.hid (HTA.out.below hb)
    clear hb
    cases hq : lexR t with
    | bad er a =>
      rw [hq] at h
      subst h
      have hne := lexR_bad hq
      have z1 : (er != 0) = true := by simpa using hne
      clear hq hne
      go_wp2_with fail
      refine (awake4_any _ (HT.out.step HB2.out) (HE.out.below HB2.out)).mono ?_
      rintro e w3 ⟨rfl, hb⟩
      have HB3 := Lib.hid (step_below HB2.out hb)
      clear hb
      go_wp2_with fail
      go_ret
      exact ⟨by simp, HB3.out⟩
    | good lb =>
      rw [hq] at h
      obtain ⟨B, capB, rfl, htb, hl4, hcapB⟩ := h
      obtain ⟨⟨_, gb, _⟩, htz⟩ := lexR_good hq
      obtain ⟨NB, hNB⟩ : ∃ N, N = lb.length := ⟨_, rfl⟩
      have HTB := Lib.hid htb
      have HRB := Lib.hid hq
      have HNB := Lib.hid hNB
      have hNB0 : 0 < NB := by omega
      have hNB4 : NB ≤ 4000 := by omega
      have hNBc : NB ≤ capB := by have := hcapB (by omega); omega
      rw [← hNB]
      clear hq htb hcapB gb hNB hl4
      by_cases hz : s.size + t.size ≥ 16384
      · have z1 : (s.size : Int) + (t.size : Int) ≥ 16384 := by omega
        go_wp2_with fail
        refine (awake4_any _ (HT.out.step HB2.out) (HE.out.below HB2.out)).mono ?_
        rintro e w3 ⟨rfl, hb⟩
        have HB3 := Lib.hid (step_below HB2.out hb)
        clear hb
        go_wp2_with fail
        go_ret
        exact ⟨by simp, HB3.out⟩
      have z1 : ¬ (s.size : Int) + (t.size : Int) ≥ 16384 := by omega
      by_cases hn : NA + NB > 4000
      · have z2 : (NA : Int) + (NB : Int) > 4000 := by omega
        go_wp2_with fail
        refine (awake4_any _ (HT.out.step HB2.out) (HE.out.below HB2.out)).mono ?_
        rintro e w3 ⟨rfl, hb⟩
        have HB3 := Lib.hid (step_below HB2.out hb)
        clear hb
        go_wp2_with fail
        go_ret
        exact ⟨by simp, HB3.out⟩
      have z2 : ¬ (NA : Int) + (NB : Int) > 4000 := by omega
      obtain ⟨u, hu⟩ : ∃ u : ByteArray, u = s ++ ⟨#[10]⟩ ++ t := ⟨_, rfl⟩
      have huL : u.data.toList = s.data.toList ++ 10 :: t.data.toList := by rw [hu]; simp
      obtain ⟨lc, hlc, hm⟩ := ag_lex huL HRA.out HRB.out (by omega) (by have := HNA.out; have := HNB.out; omega)
      have husz := ag_size huL
      have hus : (u.size : Int) ≤ 9223372036854775807 := by omega
      obtain ⟨NC, hNC⟩ : ∃ N, N = lc.length := ⟨_, rfl⟩
      have hNN : NC + 1 = NA + NB := by
        have := congrArg List.length hm
        rw [List.length_map, List.length_map, List.length_append, List.length_dropLast] at this
        have := HNA.out
        have := HNB.out
        omega
      have HNC := Lib.hid hNC
      have HM := Lib.hid hm
      have HLC := Lib.hid hlc
      clear hlc hm husz huL hNC
      go_wp2_with fail
      rw [← hu]
      refine (lext_any u (by omega) _ (HT.out.step HB2.out) (HE.out.below HB2.out)).mono ?_
      rintro e w3 ⟨hb, h⟩
      rw [HLC.out] at h
      obtain ⟨Cc, capC, rfl, htc, _, hcapC⟩ := h
      have HB3 := Lib.hid (step_below HB2.out hb)
      have HTA3 := Lib.hid (HTA2.out.below hb)
      have HTB3 := Lib.hid (HTB.out.below hb)
      have HTC3 := Lib.hid htc
      have hNCc : NC ≤ capC := by have := hcapC (by have := HNC.out; omega); have := HNC.out; omega
      rw [← HNC.out]
      have EN : (NA : Int) + (NB : Int) - 1 = (NC : Int) := by omega
      obtain ⟨na, hna⟩ : ∃ na, na + 1 = NA := ⟨NA - 1, by omega⟩
      have EA : (NA : Int) - 1 = (na : Int) := by omega
      clear hb htc hcapC hu
      have zN : ((NC : Int) == (NC : Int)) = true := by simp
      go_wp2_with fail
      go_loopg [76] NC (fun kx x wr => ∃ i : Nat, x = .int .i64 i ∧ i ≤ NC ∧ NC - i ≤ kx ∧ Hid (Below w3.heap.size w3 wr))
      case atStart => exact ⟨0, rfl, by omega, by omega, Below.refl _ _⟩
      case round =>
        obtain ⟨i, rfl, hi, hkx, HBW⟩ := hrel
        by_cases hlt : i < NC
        · have hlz : (i : Int) < (NC : Int) := by omega
          have hil : i < lc.length := by have := HNC.out; omega
          have hBW := HBW.out
          have hsz3 := hBW.size
          obtain ⟨gC, rfl, hgC, hcC⟩ := HTC3.out (by omega)
          obtain ⟨gA, rfl, hgA, hcA⟩ := HTA3.out (by have := HNA.out; omega)
          obtain ⟨gB, rfl, hgB, hcB⟩ := HTB3.out (by have := HNB.out; omega)
          obtain ⟨c0, c1, c2, c3⟩ := hcC i hil
          have cell_w : ∀ {g o : Nat} {v : Value}, g < w3.heap.size → w3.cell? ⟨g, o, none⟩ = some v → wr.cell? ⟨g, o, none⟩ = some v := fun {g o v} hg h => (hBW.cell (p := ⟨g, o, none⟩) hg).trans h
          have d0 := cell_w hgC c0
          have d1 := cell_w hgC c1
          have d2 := cell_w hgC c2
          have d3 := cell_w hgC c3
          have hmi := congrArg (fun l => l[i]?) HM.out
          simp only [List.getElem?_map, List.getElem?_eq_getElem hil, Option.map_some] at hmi
          by_cases hA : i < na
          · have hAz : (i : Int) < (na : Int) := by omega
            have hNAl := HNA.out
            have hia : i < la.length := by omega
            have hgA' : gA < wr.heap.size := by omega
            rw [List.getElem?_append_left (by rw [List.length_dropLast]; omega), List.getElem?_dropLast, if_pos (by omega), List.getElem?_eq_getElem hia, Option.map_some] at hmi
            obtain ⟨m1, m2⟩ := Prod.mk.inj (Option.some.inj hmi)
            rw [m1] at d0
            rw [m2] at d3
            obtain ⟨a0, a1, a2, a3⟩ := hcA i hia
            have e0 := cell_w hgA a0
            have e1 := cell_w hgA a1
            have e2 := cell_w hgA a2
            have e3 := cell_w hgA a3
            generalize la[i].kind = kd at d0 e0
            generalize la[i].text = tx at d3 e3
            generalize lc[i].at_ = ac at d1
            generalize lc[i].lead = lc' at d2
            generalize la[i].at_ = aa at e1
            generalize la[i].lead = la' at e2
            clear hcC hcA hcB c0 c1 c2 c3 a0 a1 a2 a3 m1 m2 hmi cell_w hBW hNAl
            go_wp2_with fail
            go_roundg (NC - (i + 1))
            case measure => omega
            case rel => exact ⟨i + 1, by simp, by omega, by omega, (HBW.out.alloc HBW.out.size _).alloc (by have := HBW.out.size; simp; omega) _⟩
          · have hAz : ¬ (i : Int) < (na : Int) := by omega
            have hNAl := HNA.out
            have hNBl := HNB.out
            obtain ⟨j, hj⟩ : ∃ j, j + NA = i + 1 := ⟨i + 1 - NA, by omega⟩
            have EB : (i : Int) - (NA : Int) + 1 = (j : Int) := by omega
            have hjz : (j : Int) < (NB : Int) := by omega
            have hjb : j < lb.length := by omega
            have hgB' : gB < wr.heap.size := by omega
            rw [List.getElem?_append_right (by rw [List.length_dropLast]; omega), List.length_dropLast, show i - (la.length - 1) = j by omega, List.getElem?_eq_getElem hjb, Option.map_some] at hmi
            obtain ⟨m1, m2⟩ := Prod.mk.inj (Option.some.inj hmi)
            rw [m1] at d0
            rw [m2] at d3
            obtain ⟨a0, a1, a2, a3⟩ := hcB j hjb
            have e0 := cell_w hgB a0
            have e1 := cell_w hgB a1
            have e2 := cell_w hgB a2
            have e3 := cell_w hgB a3
            generalize lb[j].kind = kd at d0 e0
            generalize lb[j].text = tx at d3 e3
            generalize lc[i].at_ = ac at d1
            generalize lc[i].lead = lc' at d2
            generalize lb[j].at_ = aa at e1
            generalize lb[j].lead = la' at e2
            clear hcC hcA hcB c0 c1 c2 c3 a0 a1 a2 a3 m1 m2 hmi cell_w hBW hNAl hNBl
            go_wp2_with fail
            go_roundg (NC - (i + 1))
            case measure => omega
            case rel => exact ⟨i + 1, by simp, by omega, by omega, (HBW.out.alloc HBW.out.size _).alloc (by have := HBW.out.size; simp; omega) _⟩
        · obtain rfl : i = NC := by omega
          have hlz : ¬ (i : Int) < (i : Int) := by omega
          have HB4 := Lib.hid (step_below HB3.out HBW.out)
          clear hlt
          go_wp2_with fail
          refine (awake4_any _ (HT.out.step HB4.out) (HE.out.below HB4.out)).mono ?_
          rintro e w5 ⟨rfl, hb⟩
          have HB5 := Lib.hid (step_below HB4.out hb)
          clear hb
          go_wp2_with fail
          go_ret
          exact ⟨by simp, HB5.out⟩
end Go.Proofs.YtpbheelocigciaaDoor
