/- Contracts: the law ParseJoins: whatever the two texts, it is true. -/
import Derived.Test.YthlkjfkgdijfdaaGreatDoorHR
import Derived.IntWalk
namespace Go.Proofs.YthlkjfkgdijfdaaGreatDoor
open Go.RowKit
namespace Pg
open Ps
theorem drop_app_lt : ∀ (a b : Fo) (i : Nat) (h : Hd) (kk r : Fo), a.drop i = .cons h kk r → (a.app b).drop i = .cons h kk (r.app b)
  | .nil, b, i, h, kk, r, e => by cases i <;> simp [Fo.drop] at e
  | .cons h' k' r', b, 0, h, kk, r, e => by
    rw [Fo.drop] at e
    injection e with e1 e2 e3
    subst e1 e2 e3
    rw [Fo.app, Fo.drop]
  | .cons h' k' r', b, i + 1, h, kk, r, e => by
    rw [Fo.drop] at e
    rw [Fo.app, Fo.drop]
    exact drop_app_lt r' b i h kk r e
theorem drop_app_ge : ∀ (a b : Fo) (j : Nat), (a.app b).drop (a.len + j) = b.drop j
  | .nil, b, j => by rw [Fo.app, Fo.len, Nat.zero_add]
  | .cons h k r, b, j => by
    rw [Fo.app, Fo.len, show r.len + 1 + j = (r.len + j) + 1 by omega, Fo.drop]
    exact drop_app_ge r b j
theorem hde_symm {h h' : Hd} (e : HdE false h h') : HdE false h' h := ⟨e.1.symm, e.2.1.symm, fun h => by cases h⟩
/-- What both texts, the one behind the other, come to. -/
theorem joins_of {s t u : ByteArray} {A B : List Tok} {hA hB : Hd} {kA kB : Fo} (hu : u.data.toList = s.data.toList ++ 10 :: t.data.toList) (oA : ofM s = .ok A hA kA) (oB : ofM t = .ok B hB kB) :
    (∃ C hC kC, ofM u = .ok C hC kC ∧ Eqv false (kA.app kB) kC ∧ kC.len ≤ 1000000 ∧ kC.wide ≤ 1000000 ∧ (∃ til, hC = ⟨1, 0, til, e0, 0⟩)) ∨ ((∃ a, ofM u = .bad 5 a) ∧ 3000 < s.size + t.size) := by
  obtain ⟨lA, pA⟩ := of_ok oA
  obtain ⟨lB, pB⟩ := of_ok oB
  rcases ag_all hu lA lB with ⟨C, hC, hm⟩ | ⟨⟨a, ha⟩, hs⟩
  · have WA := lexR_wf lA (lexR_len lA)
    have WB := lexR_wf lB (lexR_len lB)
    have WC := lexR_wf hC (lexR_len hC)
    obtain ⟨h, k, pC, hk⟩ := joins_parse WA WB WC hm pA pB
    obtain ⟨q, hq, _, eh, ek, _, _⟩ := parse_ok WC pC
    have hw := items_wide' hq
    refine .inl ⟨C, h, k, ?_, hk, ?_, ?_, ⟨_, eh⟩⟩
    · unfold ofM; rw [hC]; dsimp only; rw [pC]
    · rw [ek]; exact hw.1
    · rw [ek]; exact hw.2
  · refine .inr ⟨⟨a, ?_⟩, hs⟩
    unfold ofM; rw [ha]

set_option maxHeartbeats 8000000 in
set_option maxRecDepth 100000 in
theorem joins_walk (s t : ByteArray) (w : World) (hT : Tabs w) (hE : Errs w) (hN : Names w) (hs : (s.size : Int) ≤ 9223372036854775807) (ht : (t.size : Int) ≤ 9223372036854775807) : Calls Tryz.prog 6 #[.string s, .string t] w fun e w' => e = .returned (.bool true) ∧ Below w.heap.size w w' := by
  have CO : Hid (∀ (u : ByteArray), (u.size : Int) ≤ 9223372036854775807 → ∀ w', Below w.heap.size w w' → Calls Tryz.prog 7 #[.string u] w' (OfQ w' (ofM u))) := fun u hu w' hb => of_any u hu w' (Tabs.step hT hb) (hE.below hb)
  have CA : Hid (∀ w', Below w.heap.size w w' → Calls Tryz.prog 9 #[] w' fun e w'' => e = .returned (.bool true) ∧ Below w'.heap.size w' w'') := fun w' hb => awake_any w' (Tabs.step hT hb) (hE.below hb) (hN.step hb)
  have CS := Lib.hid (CO.out s hs w (Below.refl _ _))
  have hbw := Lib.hid (Below.refl w.heap.size w)
  clear hT hE hN
  go_enter Tryz.func6, Tryz.ntmps6
  go_wp2_with fail
  refine CS.out.mono ?_
  rintro e w1 ⟨hb, ho⟩
  clear CS hbw
  cases hx : ofM s with
  | bad er a =>
    rw [hx] at ho
    subst ho
    have hne := of_bad hx
    have h1 : (er == 0) = false := by rw [beq_eq_false_iff_ne]; exact hne
    have h2 : (er != 0) = true := by rw [bne_iff_ne]; exact hne
    have B1 := Lib.hid (hb.alloc hb.size (.cells zcc 25))
    clear hb hx hne
    go_wp2_with fail
    refine (CO.out t ht _ B1.out).mono ?_
    rintro e w2 ⟨hb, ho⟩
    cases hy : ofM t with
    | bad er2 a2 =>
      rw [hy] at ho
      subst ho
      have B2 := Lib.hid ((B1.out.trans (hb.mono B1.out.size)).alloc (B1.out.trans (hb.mono B1.out.size)).size (.cells zcc 25))
      clear hb hy B1 CO
      go_wp2_with fail
      refine (CA.out _ B2.out).mono ?_
      rintro e w3 ⟨rfl, hb⟩
      have B3 := Lib.hid (B2.out.trans (hb.mono B2.out.size))
      clear hb
      go_wp2_with fail
      go_ret
      exact ⟨rfl, B3.out⟩
    | ok l h k =>
      rw [hy] at ho
      obtain ⟨A, c, A1, c1, rfl, _, _, _⟩ := ho
      have B2 := Lib.hid ((B1.out.trans (hb.mono B1.out.size)).alloc (B1.out.trans (hb.mono B1.out.size)).size (.cells (ncc h A1 k.len c1) 25))
      clear hb hy B1 CO
      go_wp2_with fail
      refine (CA.out _ B2.out).mono ?_
      rintro e w3 ⟨rfl, hb⟩
      have B3 := Lib.hid (B2.out.trans (hb.mono B2.out.size))
      clear hb
      go_wp2_with fail
      go_ret
      exact ⟨rfl, B3.out⟩
  | ok la hA kA =>
    rw [hx] at ho
    obtain ⟨TA, tc, A1, c1, rfl, _, _, hk1⟩ := ho
    obtain ⟨tA, rfl⟩ : ∃ tA, hA = ⟨1, 0, tA, e0, 0⟩ := by
      obtain ⟨l0, p0⟩ := of_ok hx
      obtain ⟨q, _, _, eh, _⟩ := parse_ok (lexR_wf l0 (lexR_len l0)) p0
      exact ⟨_, eh⟩
    have hsz := (lexR_good (of_ok hx).1).2
    obtain ⟨na, hna⟩ : ∃ na, na = kA.len := ⟨_, rfl⟩
    rw [← hna]
    have HX := Lib.hid hx
    have HNA := Lib.hid hna
    have B1 := Lib.hid (hb.alloc hb.size (.cells (ncc ⟨1, 0, tA, e0, 0⟩ A1 na c1) 25))
    have bz := bel1 w1 (.cells (ncc ⟨1, 0, tA, e0, 0⟩ A1 na c1) 25)
    have R1 := Lib.hid (RowB.new w1 25 (ncc ⟨1, 0, tA, e0, 0⟩ A1 na c1))
    have K1 := Lib.hid (hk1.below bz)
    have hs1 := hb.size
    clear hb hx hk1 hna bz
    go_wp2_with fail
    refine (CO.out t ht _ B1.out).mono ?_
    rintro e w2 ⟨hb, ho⟩
    have hs2 : w1.heap.size < w2.heap.size := by have := hb.size; simp at this; omega
    cases hy : ofM t with
    | bad er2 a2 =>
      rw [hy] at ho
      subst ho
      have hne := of_bad hy
      have h1 : (er2 == 0) = false := by rw [beq_eq_false_iff_ne]; exact hne
      have h2 : (er2 != 0) = true := by rw [bne_iff_ne]; exact hne
      clear hne
      have B2 := Lib.hid ((B1.out.trans (hb.mono B1.out.size)).alloc (B1.out.trans (hb.mono B1.out.size)).size (.cells zcc 25))
      clear hb hy B1 CO
      go_wp2_with fail
      refine (CA.out _ B2.out).mono ?_
      rintro e w3 ⟨rfl, hb⟩
      have B3 := Lib.hid (B2.out.trans (hb.mono B2.out.size))
      clear hb
      go_wp2_with fail
      go_ret
      exact ⟨rfl, B3.out⟩
    | ok lb hB kB =>
      rw [hy] at ho
      obtain ⟨TB, td, A2, c2, rfl, _, _, hk2⟩ := ho
      obtain ⟨tB, rfl⟩ : ∃ tB, hB = ⟨1, 0, tB, e0, 0⟩ := by
        obtain ⟨l0, p0⟩ := of_ok hy
        obtain ⟨q, _, _, eh, _⟩ := parse_ok (lexR_wf l0 (lexR_len l0)) p0
        exact ⟨_, eh⟩
      have htz := (lexR_good (of_ok hy).1).2
      obtain ⟨nb, hnb⟩ : ∃ nb, nb = kB.len := ⟨_, rfl⟩
      rw [← hnb]
      have HNB := Lib.hid hnb
      obtain ⟨u, hu⟩ : ∃ u : ByteArray, u = s ++ ⟨#[10]⟩ ++ t := ⟨_, rfl⟩
      have huL : u.data.toList = s.data.toList ++ 10 :: t.data.toList := by rw [hu]; simp
      have husz := ag_size huL
      have HJ := Lib.hid (joins_of huL HX.out hy)
      have hb0 := B1.out.trans (hb.mono B1.out.size)
      have B2 := Lib.hid (hb0.alloc hb0.size (.cells (ncc ⟨1, 0, tB, e0, 0⟩ A2 nb c2) 25))
      have bz := bel1 w2 (.cells (ncc ⟨1, 0, tB, e0, 0⟩ A2 nb c2) 25)
      have R2 := Lib.hid ((R1.out.below hb (by simp)).below bz hs2)
      have K2 := Lib.hid ((K1.out.below hb).below bz)
      have Q2 := Lib.hid (RowB.new w2 25 (ncc ⟨1, 0, tB, e0, 0⟩ A2 nb c2))
      have M2 := Lib.hid (hk2.below bz)
      clear hb hb0 hy hk2 hnb bz huL HX B1 R1 K1
      go_wp2_with fail
      rw [← hu]
      refine (CO.out u (by omega) _ B2.out).mono ?_
      rintro e w3 ⟨hb, ho⟩
      have hs3 : w2.heap.size < w3.heap.size := by have := hb.size; simp at this; omega
      have hb0 := B2.out.trans (hb.mono B2.out.size)
      rcases HJ.out with ⟨lc, hC, kC, hq, hE, hkl, hkw, ⟨tC, rfl⟩⟩ | ⟨⟨a, hq⟩, hlim⟩
      · rw [hq] at ho
        obtain ⟨TC, te, A3, c3, rfl, _, _, hk3⟩ := ho
        obtain ⟨nc, hnc⟩ : ∃ nc, nc = kC.len := ⟨_, rfl⟩
        have hnn : nc = na + nb := by
          rw [hnc, ← Eqv.len hE, HNA.out, HNB.out]
          exact Fo.len_app _ _
        rw [← hnc] at hkl ⊢
        have HE := Lib.hid hE
        have HW := Lib.hid hkw
        have HNC := Lib.hid hnc
        have B3 := Lib.hid (hb0.alloc hb0.size (.cells (ncc ⟨1, 0, tC, e0, 0⟩ A3 nc c3) 25))
        have bz := bel1 w3 (.cells (ncc ⟨1, 0, tC, e0, 0⟩ A3 nc c3) 25)
        have B4 := Lib.hid bz
        have B0 := Lib.hid hb0
        have R3 := Lib.hid (R2.out.below hb (by simp; omega))
        have Q3 := Lib.hid (Q2.out.below hb (by simp))
        have K3 := Lib.hid (K2.out.below hb)
        have M3 := Lib.hid (M2.out.below hb)
        have L3 := Lib.hid hk3
        have S3 := Lib.hid (RowB.new w3 25 (ncc ⟨1, 0, tC, e0, 0⟩ A3 nc c3))
        have r6 : ∀ i, (w3.alloc (.cells #[.int .i64 1, .int .i64 0, .int .i64 tC, .string e0, .int .i64 0, .slice A3 nc c3] 25)).cell? ⟨w1.heap.size, i, none⟩ = #[.int .i64 1, .int .i64 0, .int .i64 tA, .string e0, .int .i64 0, .slice A1 na c1][i]? := (R3.out.below bz (by omega)).cell
        have r10 : ∀ i, (w3.alloc (.cells #[.int .i64 1, .int .i64 0, .int .i64 tC, .string e0, .int .i64 0, .slice A3 nc c3] 25)).cell? ⟨w2.heap.size, i, none⟩ = #[.int .i64 1, .int .i64 0, .int .i64 tB, .string e0, .int .i64 0, .slice A2 nb c2][i]? := (Q3.out.below bz hs3).cell
        have r14 : ∀ i, (w3.alloc (.cells #[.int .i64 1, .int .i64 0, .int .i64 tC, .string e0, .int .i64 0, .slice A3 nc c3] 25)).cell? ⟨w3.heap.size, i, none⟩ = #[.int .i64 1, .int .i64 0, .int .i64 tC, .string e0, .int .i64 0, .slice A3 nc c3][i]? := S3.out.cell
        have ew : IntKind.i64.wrap ((na : Int) + (nb : Int)) = (nc : Int) := by rw [IntKind.wrap_i64]; omega
        have ez : ((nc : Int) != (nc : Int)) = false := by simp
        have HNN := Lib.hid hnn
        clear hb hb0 hq hE hkw hnc hk3 bz HJ B2 R2 K2 Q2 M2 hu CO hnn
        go_wp2_with fail
        go_loopg [79] (nc + 1) (fun kx s79 wr => ∃ (i : Nat), s79 = .int .i64 i ∧ nc - i ≤ kx ∧ i ≤ nc ∧ Hid (Below w3.heap.size w3 wr) ∧ Hid (RowB wr w3.heap.size 25 (ncc ⟨1, 0, tC, e0, 0⟩ A3 nc c3)))
        case atStart => exact ⟨0, rfl, by omega, by omega, B4.out, S3.out⟩
        case round =>
          obtain ⟨i, rfl, hkx, hin, HB, SS⟩ := hrel
          clear B4 S3 r6 r10 r14 B3
          by_cases hi : i < nc
          · have hil : (i : Int) < (nc : Int) := by omega
            have hil2 : decide ((i : Int) < (nc : Int)) = true := decide_eq_true hil
            obtain ⟨⟨x1, x2, x3, x4, x5⟩, k1, e⟩ := Fo.drop_cons kC i (by rw [← HNC.out]; exact hi)
            obtain ⟨d1, d2, d3⟩ := Fo.drop_bounds kC i _ _ _ e
            obtain ⟨g, o, A4, c4, rfl, hP, hg, hk4, a0, a1, a2, a3, a4, a5⟩ := KV.nth (L3.out.below HB.out) e
            have hs4 := HB.out.size
            have bz := bel1 wr (.cells (ncc ⟨x1, x2, x3, x4, x5⟩ A4 k1.len c4) 25)
            have TT := Lib.hid (RowB.new wr 25 (ncc ⟨x1, x2, x3, x4, x5⟩ A4 k1.len c4))
            have RR := Lib.hid ((R3.out.below HB.out (by omega)).below bz (by omega))
            have QQ := Lib.hid ((Q3.out.below HB.out hs3).below bz (by omega))
            have SR := Lib.hid (SS.out.below bz SS.out.lt)
            have H4 := Lib.hid (HB.out.trans (bz.mono hs4))
            have L4 := Lib.hid (hk4.below bz)
            have E4 := Lib.hid e
            have D4 := Lib.hid (show k1.len ≤ 1000001 ∧ k1.wide ≤ 1000001 from ⟨by have := HW.out; omega, by have := HW.out; omega⟩)
            have K4 := Lib.hid ((K3.out.below HB.out).below bz)
            have M4 := Lib.hid ((M3.out.below HB.out).below bz)
            obtain ⟨WA, hWA⟩ : ∃ WA, WA = wr.alloc (.cells (ncc ⟨x1, x2, x3, x4, x5⟩ A4 k1.len c4) 25) := ⟨_, rfl⟩
            rw [← hWA] at TT RR QQ SR H4 L4 K4 M4
            have HWA := Lib.hid (show wr.alloc (.cells #[.int .i64 x1, .int .i64 x2, .int .i64 x3, .string x4, .int .i64 x5, .slice A4 k1.len c4] 25) = WA from hWA.symm)
            clear e d1 d2 d3 hP hg hk4 bz HB SS hWA
            go_wp2_with fail
            rw [HWA.out]
            clear a0 a1 a2 a3 a4 a5 HWA
            have hbd : Hid (∀ d os, Below WA.heap.size WA (Go.Sort.grow (redrawn WA d) os)) := fun d os => below_regrown WA d os
            have zt0 := fun d os => cell_regrown (TT.out.cell 0) d os
            have zt1 := fun d os => cell_regrown (TT.out.cell 1) d os
            have zt2 := fun d os => cell_regrown (TT.out.cell 2) d os
            have zt3 := fun d os => cell_regrown (TT.out.cell 3) d os
            have zt4 := fun d os => cell_regrown (TT.out.cell 4) d os
            have zt5 := fun d os => cell_regrown (TT.out.cell 5) d os
            have zr := fun d os => cell_regrown (RR.out.cell 5) d os
            have zq := fun d os => cell_regrown (QQ.out.cell 5) d os
            obtain ⟨ii, hii⟩ : ∃ ii, ii = i + 1 := ⟨_, rfl⟩
            have ei : IntKind.i64.wrap ((i : Int) + 1) = (ii : Int) := by rw [IntKind.wrap_i64]; omega
            have HII := Lib.hid hii
            clear hii
            by_cases hA : i < na
            · have hl : (i : Int) < (na : Int) := by omega
              have hl2 : decide ((i : Int) < (na : Int)) = true := decide_eq_true hl
              have hl3 : decide ((i : Int) ≥ (na : Int)) = false := decide_eq_false (by omega)
              have hl4 : decide (na ≤ i) = false := decide_eq_false (by omega)
              obtain ⟨⟨y1, y2, y3, y4, y5⟩, k2, e2⟩ := Fo.drop_cons kA i (by rw [← HNA.out]; exact hA)
              obtain ⟨h', kk', e4, he, hq⟩ := Eqv.nth HE.out (drop_app_lt kA kB i _ _ _ e2)
              rw [E4.out] at e4
              injection e4 with e5 e6 e7
              subst e5 e6
              obtain ⟨g', o', A5, c5, rfl, _, _, hk5, b0, b1, b2, b3, b4, b5⟩ := KV.nth K4.out e2
              have CC : Hid (∀ w', Below WA.heap.size WA w' → Calls Tryz.prog 11 #[nvv ⟨x1, x2, x3, x4, x5⟩ A4 k1.len c4, nvv ⟨y1, y2, y3, y4, y5⟩ A5 k2.len c5, .bool false] w' fun e w'' => e = .returned (.bool true) ∧ Below w'.heap.size w' w'') := fun w' hb =>
                same_false k1.deep ⟨x1, x2, x3, x4, x5⟩ ⟨y1, y2, y3, y4, y5⟩ k1 k2 A4 A5 c4 c5 _ _ w' (Nat.le_refl _) D4.out.1 D4.out.2 (hde_symm he) (Ps.Eqv.symm_false hq) (L4.out.below hb) (hk5.below hb)
              have z0 := fun d os => cell_regrown b0 d os
              have z1 := fun d os => cell_regrown b1 d os
              have z2 := fun d os => cell_regrown b2 d os
              have z3 := fun d os => cell_regrown b3 d os
              have z4 := fun d os => cell_regrown b4 d os
              have z5 := fun d os => cell_regrown b5 d os
              clear e2 he hq hk5 b0 b1 b2 b3 b4 b5 e7
              refine wp_region_quiet_below (by kernel_rfl) (by kernel_rfl) ?_
              repeat (go_big_quiet_step (first
                | (go_at_call 11; exact Calls.regrown_of (CC.out _ (hbd.out _ _)))))
              refine wpQuiet_nil ?_
              intro _ hw'
              obtain ⟨⟨dq, osq⟩, hw''⟩ := hw'
              subst hw''
              have S5 := Lib.hid (SR.out.below (below_regrown WA dq osq) SR.out.lt)
              have H5 := Lib.hid (H4.out.trans ((below_regrown WA dq osq).mono H4.out.size))
              generalize Go.Sort.grow (redrawn WA dq) osq = WX at *
              clear CC hbd zt0 zt1 zt2 zt3 zt4 zt5 zr zq z0 z1 z2 z3 z4 z5
              go_wp2_with fail
              have hii := HII.out
              go_roundg (nc - ii)
              case measure => omega
              case rel => exact ⟨ii, (by first | rfl | rw [show (ii : Int) = (i : Int) + 1 by omega]), by omega, by omega, H5.out, S5.out⟩
            · have hA' : na ≤ i := by omega
              have hl2 : decide ((i : Int) < (na : Int)) = false := decide_eq_false (by omega)
              have hl3 : decide ((i : Int) ≥ (na : Int)) = true := decide_eq_true (by omega)
              have hl4 : decide (na ≤ i) = true := decide_eq_true (by omega)
              have hl5 : decide (i < na) = false := decide_eq_false (by omega)
              obtain ⟨j, hj⟩ : ∃ j, j = i - na := ⟨_, rfl⟩
              have hjb : j < nb := by have := HNN.out; omega
              have hl : (j : Int) < (nb : Int) := by omega
              have ej : IntKind.i64.wrap ((i : Int) - (na : Int)) = (j : Int) := by rw [IntKind.wrap_i64]; omega
              obtain ⟨⟨y1, y2, y3, y4, y5⟩, k2, e2⟩ := Fo.drop_cons kB j (by rw [← HNB.out]; exact hjb)
              have e3 : (kA.app kB).drop i = .cons ⟨y1, y2, y3, y4, y5⟩ k2 (kB.drop (j + 1)) := by
                rw [← e2, ← drop_app_ge kA kB j, ← HNA.out, show na + j = i by omega]
              obtain ⟨h', kk', e4, he, hq⟩ := Eqv.nth HE.out e3
              rw [E4.out] at e4
              injection e4 with e5 e6 e7
              subst e5 e6
              obtain ⟨g', o', A5, c5, rfl, _, _, hk5, b0, b1, b2, b3, b4, b5⟩ := KV.nth M4.out e2
              clear e3 hj
              have CC : Hid (∀ w', Below WA.heap.size WA w' → Calls Tryz.prog 11 #[nvv ⟨x1, x2, x3, x4, x5⟩ A4 k1.len c4, nvv ⟨y1, y2, y3, y4, y5⟩ A5 k2.len c5, .bool false] w' fun e w'' => e = .returned (.bool true) ∧ Below w'.heap.size w' w'') := fun w' hb =>
                same_false k1.deep ⟨x1, x2, x3, x4, x5⟩ ⟨y1, y2, y3, y4, y5⟩ k1 k2 A4 A5 c4 c5 _ _ w' (Nat.le_refl _) D4.out.1 D4.out.2 (hde_symm he) (Ps.Eqv.symm_false hq) (L4.out.below hb) (hk5.below hb)
              have z0 := fun d os => cell_regrown b0 d os
              have z1 := fun d os => cell_regrown b1 d os
              have z2 := fun d os => cell_regrown b2 d os
              have z3 := fun d os => cell_regrown b3 d os
              have z4 := fun d os => cell_regrown b4 d os
              have z5 := fun d os => cell_regrown b5 d os
              clear e2 he hq hk5 b0 b1 b2 b3 b4 b5 e7
              refine wp_region_quiet_below (by kernel_rfl) (by kernel_rfl) ?_
              repeat (go_big_quiet_step (first
                | (go_at_call 11; exact Calls.regrown_of (CC.out _ (hbd.out _ _)))))
              refine wpQuiet_nil ?_
              intro _ hw'
              obtain ⟨⟨dq, osq⟩, hw''⟩ := hw'
              subst hw''
              have S5 := Lib.hid (SR.out.below (below_regrown WA dq osq) SR.out.lt)
              have H5 := Lib.hid (H4.out.trans ((below_regrown WA dq osq).mono H4.out.size))
              generalize Go.Sort.grow (redrawn WA dq) osq = WX at *
              clear CC hbd zt0 zt1 zt2 zt3 zt4 zt5 zr zq z0 z1 z2 z3 z4 z5
              go_wp2_with fail
              have hii := HII.out
              go_roundg (nc - ii)
              case measure => omega
              case rel => exact ⟨ii, (by first | rfl | rw [show (ii : Int) = (i : Int) + 1 by omega]), by omega, by omega, H5.out, S5.out⟩
          · have hd1 : decide ((i : Int) < (nc : Int)) = false := decide_eq_false (by omega)
            have hd2 : decide (i < nc) = false := decide_eq_false hi
            have B5 := Lib.hid (B0.out.trans (HB.out.mono B0.out.size))
            clear hi
            go_wp2_with fail
            refine (CA.out _ B5.out).mono ?_
            rintro e w4 ⟨rfl, hb⟩
            have B6 := Lib.hid (B5.out.trans (hb.mono B5.out.size))
            clear hb B5
            go_wp2_with fail
            go_ret
            exact ⟨rfl, B6.out⟩
      · rw [hq] at ho
        subst ho
        have B3 := Lib.hid (hb0.alloc hb0.size (.cells zcc 25))
        have z1 : (s.size : Int) + (t.size : Int) > 3000 := by omega
        clear hb hb0 hq HJ B2 R2 K2 Q2 M2 hu CO hlim
        go_wp2_with fail
        refine (CA.out _ B3.out).mono ?_
        rintro e w4 ⟨rfl, hb⟩
        have B4 := Lib.hid (B3.out.trans (hb.mono B3.out.size))
        clear hb B3
        go_wp2_with fail
        go_ret
        exact ⟨rfl, B4.out⟩
end Pg
end Go.Proofs.YthlkjfkgdijfdaaGreatDoor
