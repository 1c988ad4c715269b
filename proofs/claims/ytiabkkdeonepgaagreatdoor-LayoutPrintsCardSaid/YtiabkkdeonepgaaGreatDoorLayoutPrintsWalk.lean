import Derived.Test.YtiabkkdeonepgaaGreatDoorYQ
import Derived.Test.YtiabkkdeonepgaaGreatDoorYR
import Derived.Test.YtiabkkdeonepgaaGreatDoorYP
import Derived.Test.YtiabkkdeonepgaaGreatDoorNYO
import Derived.Test.YtiabkkdeonepgaaGreatDoorHK
namespace Go.Proofs.YtiabkkdeonepgaaGreatDoor
open Go.RowKit
namespace Pg
open Ps
theorem of_ok {s : ByteArray} {l : List Tok} {h : Hd} {k : Fo} (hh : ofM s = .ok l h k) : l.length ≤ 4000 ∧ k.len ≤ 1000000 ∧ k.wide ≤ 1000000 := by
  unfold ofM at hh
  cases hx : lexR s with
  | bad e a => rw [hx] at hh; cases hh
  | good l' =>
    rw [hx] at hh
    dsimp only at hh
    cases hp : parseM l' with
    | bad e a => rw [hp] at hh; cases hh
    | ok h' k' =>
      rw [hp] at hh
      injection hh with h1 h2 h3
      subst h1 h2 h3
      have W := lexR_wf hx (lexR_len hx)
      obtain ⟨q, hq, _⟩ := items_some W.toWf
      have hw := items_wide' hq
      unfold parseM at hp
      rw [hq] at hp
      dsimp only at hp
      unfold wholeM at hp
      split at hp
      · cases hp
      · split at hp
        · cases hp
        · simp only [Fo.one] at hp
          split at hp
          · cases hp
          · injection hp with h1 h2
            subst h1 h2
            exact ⟨lexR_len hx, hw.1, hw.2⟩
theorem of_bad {s : ByteArray} {e a : Int} (h : ofM s = .bad e a) : e ≠ 0 := by
  unfold ofM at h
  cases hx : lexR s with
  | bad e' a' =>
    rw [hx] at h
    injection h with h1 h2
    rw [← h1]
    exact lexR_bad hx
  | good l =>
    rw [hx] at h
    dsimp only at h
    cases hp : parseM l with
    | ok h' k' => rw [hp] at h; cases h
    | bad e' a' =>
      rw [hp] at h
      injection h with h1 h2
      have hle : l.length ≤ 4000 := lexR_len hx
      have := parse_bad (lexR_wf hx hle) hp
      omega
theorem KV.lt {w : World} {P : Nat → Prop} {k : Fo} {A : Option Addr} {cap : Nat} (h : KV w P k A cap) : KV w (fun g => g < w.heap.size) k A cap := KV.keep (Nat.le_refl _) (fun _ _ hl => ⟨rfl, hl⟩) h
set_option maxHeartbeats 16000000 in
set_option maxRecDepth 100000 in
theorem prints_walk (s : ByteArray) (w : World) (hT : Tabs w) (hE : Errs w) (hs : (s.size : Int) ≤ 9223372036854775807) : Calls Tryz.prog 3 #[.string s] w fun e w' => e = .returned (.bool true) ∧ Below w.heap.size w w' := by
  have CT := Lib.hid (rof_any s hs w)
  have TT : Hid (∀ w', Below w.heap.size w w' → Tabs w') := fun w' hb => Tabs.step hT hb
  have EE : Hid (∀ w', Below w.heap.size w w' → Errs w') := fun w' hb => hE.below hb
  have CA : Hid (∀ w', Below w.heap.size w w' → Calls Tryz.prog 5 #[] w' fun e w'' => e = .returned (.bool true) ∧ Below w'.heap.size w' w'') := fun w' hb => awake_any w' (Tabs.step hT hb) (hE.below hb)
  clear hT hE
  go_enter Tryz.func3, Tryz.ntmps3
  go_wp2_with fail
  refine CT.out.mono ?_
  rintro e w1 ⟨hb, ho⟩
  clear CT
  cases hx : ofM s with
  | bad er ea =>
    rw [hx] at ho
    obtain rfl := ho
    have he : (er != 0) = true := by
      rw [bne_iff_ne]
      exact of_bad hx
    have hbz := hb.alloc hb.size (.cells zcc 25)
    have B1 := Lib.hid hbz
    have C2 := Lib.hid (CA.out _ hbz)
    clear hb hbz CA hx
    go_wp2_with fail
    refine C2.out.mono ?_
    rintro e w3 ⟨rfl, hb⟩
    have B3 := Lib.hid (B1.out.trans (hb.mono B1.out.size))
    clear hb C2
    go_wp2_with fail
    (first | go_ret | go_ret2)
    exact ⟨rfl, B3.out⟩
  | ok l h k =>
    rw [hx] at ho
    obtain ⟨T1, d1, A1, c1, rfl, hT1, hd1, hk1⟩ := ho
    obtain ⟨hll, hl, hw⟩ := of_ok hx
    have hfl := print_len hx
    obtain ⟨hok, hk1', hdp, _, hag⟩ := print_of hx
    obtain ⟨x1, x2, x3, x4, x5⟩ := h
    dsimp only at hk1'
    have hbz := hb.alloc hb.size (.cells (ncc ⟨x1, x2, x3, x4, x5⟩ A1 k.len c1) 25)
    have bz := bel1 w1 (.cells (ncc ⟨x1, x2, x3, x4, x5⟩ A1 k.len c1) 25)
    have B1 := Lib.hid hbz
    have R1 := Lib.hid (RowB.new w1 25 (ncc ⟨x1, x2, x3, x4, x5⟩ A1 k.len c1))
    have K1 := Lib.hid (hk1.below bz)
    have U1 := Lib.hid (hT1.below bz)
    have HOK := Lib.hid hok
    have HX1 := Lib.hid hk1'
    have HAG := Lib.hid hag
    have hlim : (fileB k).length ≤ lim := by unfold lim; omega
    have HLIM := Lib.hid hlim
    have CP0 := print_any (w1.alloc (.cells (ncc ⟨x1, x2, x3, x4, x5⟩ A1 k.len c1) 25)) x1 x2 x3 x4 x5 k A1 c1 (TT.out _ hbz) (EE.out _ hbz) (KV.lt K1.out) hok hk1' hdp (by omega) (by omega) hlim
    obtain ⟨U, hU⟩ : ∃ U : ByteArray, U = ⟨(fileB k).toArray⟩ := ⟨_, rfl⟩
    have hUs : U.size = (fileB k).length := by rw [hU]; simp [ByteArray.size]
    rw [← hU] at CP0
    have CP := Lib.hid CP0
    have HU := Lib.hid hU
    have HUS := Lib.hid hUs
    clear hb hbz bz hk1 hT1 CP0 hok hk1' hag hlim hU hUs hfl hx
    have r1 := R1.out.cell
    go_wp2_with fail
    refine CP.out.mono ?_
    rintro e w2 ⟨rfl, hb⟩
    have B2 := Lib.hid (B1.out.trans (hb.mono B1.out.size))
    have R2 := Lib.hid (R1.out.below hb R1.out.lt)
    have K2 := Lib.hid (K1.out.below hb)
    have U2 := Lib.hid (U1.out.below hb)
    clear hb CP R1 K1 U1 r1
    have r2 := R2.out.cell
    have CR := Lib.hid (right_any w2.heap.size w2 x1 x2 x3 x4 x5 k A1 c1 (Nat.le_refl _) (TT.out _ B2.out) (EE.out _ B2.out) (KV.lt K2.out) HOK.out HX1.out hdp (by omega) (by omega))
    go_wp2_with fail
    refine CR.out.mono ?_
    rintro e w3 ⟨rfl, hb⟩
    have B3 := Lib.hid (B2.out.trans (hb.mono B2.out.size))
    have R3 := Lib.hid (R2.out.below hb R2.out.lt)
    have K3 := Lib.hid (K2.out.below hb)
    have U3 := Lib.hid (U2.out.below hb)
    clear hb CR R2 K2 U2 r2 B1 B2
    by_cases hz : U.size > 16384
    · have hzi : (U.size : Int) > 16384 := by omega
      have C2 := Lib.hid (CA.out _ B3.out)
      clear hz CA
      go_wp2_with fail
      refine C2.out.mono ?_
      rintro e w4 ⟨rfl, hb⟩
      have B4 := Lib.hid (B3.out.trans (hb.mono B3.out.size))
      clear hb C2
      go_wp2_with fail
      (first | go_ret | go_ret2)
      exact ⟨rfl, B4.out⟩
    have hzi : ¬ (U.size : Int) > 16384 := by omega
    obtain ⟨C, hC, hCk⟩ := HAG.out (by rw [← HUS.out]; omega)
    rw [← HU.out] at hC
    have hCl : C.length = l.length := by simpa using congrArg List.length hCk
    have CO := Lib.hid (rof_any U (by omega) w3)
    have HCK := Lib.hid hCk
    have HCL := Lib.hid hCl
    clear hz hCk hCl
    go_wp2_with fail
    refine CO.out.mono ?_
    rintro e w4 ⟨hb, ho⟩
    rw [hC] at ho
    obtain ⟨T2, d2, A2, c2, rfl, hT2, hd2, hk2⟩ := ho
    rw [HCL.out] at hd2 ⊢
    have hbz := B3.out.trans (hb.mono B3.out.size)
    have hs4 : w1.heap.size < w4.heap.size := by have := R3.out.lt; have := hb.size; omega
    have bz := bel1 w4 (.cells (ncc ⟨x1, x2, x3, x4, x5⟩ A2 k.len c2) 25)
    have B4 := Lib.hid (hbz.alloc hbz.size (.cells (ncc ⟨x1, x2, x3, x4, x5⟩ A2 k.len c2) 25))
    have R4 := Lib.hid ((R3.out.below hb R3.out.lt).below bz hs4)
    have Q4 := Lib.hid (RowB.new w4 25 (ncc ⟨x1, x2, x3, x4, x5⟩ A2 k.len c2))
    have K4 := Lib.hid ((K3.out.below hb).below bz)
    have M4 := Lib.hid (hk2.below bz)
    have U4 := Lib.hid ((U3.out.below hb).below bz)
    have V4 := Lib.hid (hT2.below bz)
    have r4 := R4.out.cell
    have q4 := Q4.out.cell
    have CS := Lib.hid (same_false k.deep ⟨x1, x2, x3, x4, x5⟩ ⟨x1, x2, x3, x4, x5⟩ k k A1 A2 c1 c2 _ _ (w4.alloc (.cells (ncc ⟨x1, x2, x3, x4, x5⟩ A2 k.len c2) 25)) (Nat.le_refl _) (by omega) (by omega) ⟨rfl, rfl, fun h => by cases h⟩ (Eqv.refl _ _) K4.out M4.out)
    clear hb hbz bz hk2 hT2 hC CO R3 K3 U3 B3
    go_wp2_with fail
    refine CS.out.mono ?_
    rintro e w5 ⟨rfl, hb⟩
    have B5 := Lib.hid (B4.out.trans (hb.mono B4.out.size))
    have R5 := Lib.hid (R4.out.below hb R4.out.lt)
    have Q5 := Lib.hid (Q4.out.below hb Q4.out.lt)
    have K5 := Lib.hid (K4.out.below hb)
    have M5 := Lib.hid (M4.out.below hb)
    have U5 := Lib.hid (U4.out.below hb)
    have V5 := Lib.hid (V4.out.below hb)
    clear hb CS R4 Q4 K4 M4 U4 V4 r4 q4 B4
    obtain ⟨m, hm⟩ : ∃ m, m = l.length := ⟨_, rfl⟩
    rw [← hm] at hll hd1 hd2 ⊢
    have HM := Lib.hid hm
    clear hm
    go_wp2_with fail
    go_loopg [66] (m + 1) (fun kx s66 wr => ∃ i : Nat, s66 = .int .i64 i ∧ m - i ≤ kx ∧ i ≤ m ∧ Hid (Below w5.heap.size w5 wr))
    case atStart => exact ⟨0, rfl, by omega, by omega, Below.refl _ _⟩
    case round =>
      obtain ⟨i, rfl, hkx, hin, HB⟩ := hrel
      by_cases hi : i < m
      · have hil : (i : Int) < (m : Int) := by omega
        have hi2 : i < l.length := by rw [← HM.out]; exact hi
        have hi3 : i < C.length := by rw [HCL.out]; exact hi2
        obtain ⟨g, hA, hg, hc⟩ := (U5.out.below HB.out) (by omega)
        obtain ⟨g', hA', hg', hc'⟩ := (V5.out.below HB.out) (by omega)
        obtain ⟨z0, z1, z2, z3⟩ := hc i hi2
        obtain ⟨y0, y1, y2, y3⟩ := hc' i hi3
        have et : C[i].text = l[i].text := by
          have h1 : (C.map kt)[i]? = (l.map kt)[i]? := by rw [HCK.out]
          rw [List.getElem?_map, List.getElem?_map, List.getElem?_eq_getElem hi2, List.getElem?_eq_getElem hi3] at h1
          exact congrArg Prod.snd (Option.some.inj h1)
        rw [et] at y3
        clear z0 z1 z2 y0 y1 y2 hc hc' et
        generalize l[i].text = T at *
        subst hA hA'
        clear hi2 hi3
        go_wp2_with fail
        go_quiet (fail)
        go_wp2_with fail
        go_roundg (m - (i + 1))
        case measure => omega
        case rel => exact ⟨i + 1, by first | rfl | rw [show ((i + 1 : Nat) : Int) = (i : Int) + 1 by omega], by omega, by omega, below_drewN HB.out _⟩
      · have hil : ¬ (i : Int) < (m : Int) := by omega
        have B6 := Lib.hid (B5.out.trans (HB.out.mono B5.out.size))
        have R6 := Lib.hid (R5.out.below HB.out R5.out.lt)
        have Q6 := Lib.hid (Q5.out.below HB.out Q5.out.lt)
        have K6 := Lib.hid (K5.out.below HB.out)
        have M6 := Lib.hid (M5.out.below HB.out)
        have CP1 := print_any wr x1 x2 x3 x4 x5 k A2 c2 (TT.out _ B6.out) (EE.out _ B6.out) (KV.lt M6.out) HOK.out HX1.out hdp (by omega) (by omega) HLIM.out
        rw [← HU.out] at CP1
        have CP := Lib.hid CP1
        have q6 := Q6.out.cell
        clear HB R5 Q5 K5 M5 U5 V5 CP1 B5
        go_wp2_with fail
        refine CP.out.mono ?_
        rintro e w7 ⟨rfl, hb⟩
        have B7 := Lib.hid (B6.out.trans (hb.mono B6.out.size))
        have R7 := Lib.hid (R6.out.below hb R6.out.lt)
        have Q7 := Lib.hid (Q6.out.below hb Q6.out.lt)
        have K7 := Lib.hid (K6.out.below hb)
        have M7 := Lib.hid (M6.out.below hb)
        have C2 := Lib.hid (CA.out _ B7.out)
        clear hb CP R6 Q6 K6 M6 q6 B6
        go_wp2_with fail
        refine C2.out.mono ?_
        rintro e w8 ⟨rfl, hb⟩
        have B8 := Lib.hid (B7.out.trans (hb.mono B7.out.size))
        have R8 := Lib.hid (R7.out.below hb R7.out.lt)
        have Q8 := Lib.hid (Q7.out.below hb Q7.out.lt)
        have r8 := R8.out.cell
        have q8 := Q8.out.cell
        have C3 := Lib.hid (psame_all (k.deep + 1) w8 ⟨x1, x2, x3, x4, x5⟩ k A1 A2 c1 c2 _ _ (K7.out.below hb) (M7.out.below hb) (by omega) (by omega) (by omega))
        clear hb C2 R7 Q7 K7 M7 B7
        go_wp2_with fail
        refine C3.out.mono ?_
        rintro e w9 ⟨rfl, hb⟩
        have B9 := Lib.hid (B8.out.trans (hb.mono B8.out.size))
        clear hb C3
        go_wp2_with fail
        (first | go_ret | go_ret2)
        exact ⟨rfl, B9.out⟩
end Pg
end Go.Proofs.YtiabkkdeonepgaaGreatDoor
