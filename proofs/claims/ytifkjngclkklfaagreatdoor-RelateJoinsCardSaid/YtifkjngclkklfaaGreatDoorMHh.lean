/- Contracts: what two records have in common, by the document. -/
import Derived.Test.YtifkjngclkklfaaGreatDoorMHg
import Derived.Test.YtifkjngclkklfaaGreatDoorMHb
import Derived.Test.YtifkjngclkklfaaGreatDoorMGu
namespace Go.Proofs.YtifkjngclkklfaaGreatDoor
open Go.RowKit Go.Op
namespace Tm
set_option maxHeartbeats 16000000 in
set_option maxRecDepth 100000 in
theorem rjoin_rec (na nb : List ByteArray) (pa pb : List Ty) (ra : (Ty.mk 3 na pa).right = true) (rb : (Ty.mk 3 nb pb).right = true) (ca : (Ty.mk 3 na pa).cnt ≤ 1000001) (cb : (Ty.mk 3 nb pb).cnt ≤ 1000001) (IH : RJIH pa pb)
    (w : World) (P P' : Nat → Prop) (An : Option Addr) (cn : Nat) (A : Option Addr) (c : Nat) (Bn : Option Addr) (dn : Nat) (B : Option Addr) (d : Nat) (hA : TI w P (.mk 3 na pa) An cn A c) (hB : TI w P' (.mk 3 nb pb) Bn dn B d) (hsm : (Ty.mk 3 na pa).same (.mk 3 nb pb) = false) :
    Calls Tryz.prog 35 #[.agg #[.int .i64 3, .slice An na.length cn, .slice A pa.length c], .agg #[.int .i64 3, .slice Bn nb.length dn, .slice B pb.length d]] w (MadeQ (fun g => (P g ∨ P' g) ∨ w.heap.size ≤ g) (com (.mk 3 na pa) (.mk 3 nb pb)) w) := by
  have hra := right_rec ra rfl
  have hrb := right_rec rb rfl
  simp only [names_mk, parts_mk] at hra hrb
  have hca := ca
  have hcb := cb
  rw [Ty.cnt] at hca hcb
  have hca2 := cntL_len pa
  have hcb2 := cntL_len pb
  have HIH := Lib.hid IH
  have hC : com (.mk 3 na pa) (.mk 3 nb pb) = recOf (comR com nb pb na pa) := com_rec ra rb rfl rfl
  rw [hC]
  clear hC IH
  replace hA : TI w (fun g => P g ∧ g < w.heap.size) (.mk 3 na pa) An cn A c := hA.keep (Nat.le_refl _) fun g h hlt => ⟨rfl, h, hlt⟩
  replace hB : TI w (fun g => P' g ∧ g < w.heap.size) (.mk 3 nb pb) Bn dn B d := hB.keep (Nat.le_refl _) fun g h hlt => ⟨rfl, h, hlt⟩
  obtain ⟨lna, hlna⟩ : ∃ n, n = na.length := ⟨_, rfl⟩
  obtain ⟨lpa, hlpa⟩ : ∃ n, n = pa.length := ⟨_, rfl⟩
  obtain ⟨lnb, hlnb⟩ : ∃ n, n = nb.length := ⟨_, rfl⟩
  obtain ⟨lpb, hlpb⟩ : ∃ n, n = pb.length := ⟨_, rfl⟩
  obtain ⟨S, hS⟩ : ∃ S, S = w.heap.size := ⟨_, rfl⟩
  have b1 := bel1 w (.cells (tarr 3 An lna cn A lpa c) 25)
  obtain ⟨w1, h1⟩ : ∃ w1, w1 = w.alloc (.cells (tarr 3 An lna cn A lpa c) 25) := ⟨_, rfl⟩
  have s1 : w1.heap.size = S + 1 := by rw [h1, hS]; simp
  have R1 : RowB w1 S 25 (tarr 3 An lna cn A lpa c) := by rw [h1, hS]; exact RowB.new w 25 _
  rw [← h1] at b1
  obtain ⟨w2, h2⟩ : ∃ w2, w2 = w1.alloc (.cells (tarr 3 Bn lnb dn B lpb d) 25) := ⟨_, rfl⟩
  have b2 : Below w1.heap.size w1 w2 := by rw [h2]; exact bel1 w1 _
  have s2 : w2.heap.size = S + 2 := by rw [h2]; simp [s1]
  have R2 : RowB w2 (S + 1) 25 (tarr 3 Bn lnb dn B lpb d) := by rw [h2, ← s1]; exact RowB.new w1 25 _
  obtain ⟨w3, h3⟩ : ∃ w3, w3 = w2.alloc (.cells tzc 25) := ⟨_, rfl⟩
  have b3 : Below w2.heap.size w2 w3 := by rw [h3]; exact bel1 w2 _
  have s3 : w3.heap.size = S + 3 := by rw [h3]; simp [s2]
  have R3 : RowB w3 (S + 2) 25 tzc := by rw [h3, ← s2]; exact RowB.new w2 25 _
  have b23 := b2.trans (b3.mono b2.size)
  have b13 := b1.trans (b23.mono b1.size)
  have X1 := R1.below b23 R1.lt
  have X2 := R2.below b3 R2.lt
  have hTA := hA.below b13
  have hTB := hB.below b13
  have C0 := rsame_any (.mk 3 na pa) ca (.mk 3 nb pb) cb w3 _ _ An cn A c Bn dn B d hTA hTB
  obtain ⟨zz, hz⟩ : ∃ z, z = (Ty.mk 3 na pa).same (.mk 3 nb pb) := ⟨_, rfl⟩
  rw [← hz] at C0
  simp only [tv, kind_mk, names_mk, parts_mk, ← hlna, ← hlpa, ← hlnb, ← hlpb] at C0
  have C1 := Lib.hid C0
  have e1 : w3 = ((w.alloc (.cells (tarr 3 An lna cn A lpa c) 25)).alloc (.cells (tarr 3 Bn lnb dn B lpb d) 25)).alloc (.cells tzc 25) := by rw [h3, h2, h1]
  have x1 := X1.cell
  have x2 := X2.cell
  rw [hS] at X1 X2 R3 s3 x1 x2
  rw [e1] at x1 x2
  have HB0 := Lib.hid b13
  have HX1 := Lib.hid X1
  have HX2 := Lib.hid X2
  have HX3 := Lib.hid R3
  have HTA := Lib.hid hTA
  have HTB := Lib.hid hTB
  have HS3 := Lib.hid s3
  have HLN := Lib.hid (And.intro hlna (And.intro hlpa (And.intro hlnb hlpb)))
  have HZ := Lib.hid hz
  have HRA := Lib.hid ra
  have HRB := Lib.hid rb
  have HCA := Lib.hid ca
  have HCB := Lib.hid cb
  rw [← hlna, ← hlpa, ← hlnb, ← hlpb]
  clear h1 h2 h3 s1 s2 s3 R1 R2 R3 b1 b2 b3 b23 b13 hA hB hTA hTB C0 hz hS X1 X2 w1 w2 ra rb ca cb hlna hlpa hlnb hlpb
  go_enter Tryz.func35, Tryz.ntmps35
  go_wp2_with fail
  rw [← e1]
  refine C1.out.mono ?_
  rintro e W ⟨rfl, hb1⟩
  have Y1 := Lib.hid (HX1.out.below hb1 HX1.out.lt)
  have Y2 := Lib.hid (HX2.out.below hb1 HX2.out.lt)
  have Y3 := Lib.hid (HX3.out.below hb1 HX3.out.lt)
  have HB := Lib.hid (HB0.out.trans (hb1.mono HB0.out.size))
  have TA := Lib.hid (HTA.out.below hb1)
  have TB := Lib.hid (HTB.out.below hb1)
  have HWS : Hid (w.heap.size + 3 ≤ W.heap.size) := by unfold Hid; have := hb1.size; rw [HS3.out] at this; exact this
  clear hb1 C1 e1 x1 x2 HX1 HX2 HX3 HB0 HTA HTB HS3

  have hzz : zz = false := HZ.out.trans hsm
  clear hsm
  subst hzz
  obtain ⟨n, hn⟩ : ∃ n, n = lna := ⟨_, rfl⟩
  obtain ⟨m, hm⟩ : ∃ m, m = lnb := ⟨_, rfl⟩
  have e1 : lna = n := hn.symm
  have e2 : lpa = n := by have := HLN.out; omega
  have e3 : lnb = m := hm.symm
  have e4 : lpb = m := by have := HLN.out; omega
  subst e1 e3
  clear hn hm
  subst e2 e4
  have HN : Hid (lpa = na.length ∧ lpa = pa.length ∧ lpb = nb.length ∧ lpb = pb.length) := HLN.out
  have hn1 : lpa ≤ 1000001 := by have := HN.out; omega
  have hm1 : lpb ≤ 1000001 := by have := HN.out; omega
  have HNDB := Lib.hid (rise_nodup hrb.2.2)
  have HNDA := Lib.hid (rise_nodup hra.2.2)
  clear hra hrb hca hcb hca2 hcb2 HLN
  generalize lpa = n at *
  generalize lpb = m at *
  have z1 := Y1.out.cell
  have z2 := Y2.out.cell
  have l1 : w.heap.size < W.heap.size := Y1.out.lt
  have l2 : w.heap.size + 1 < W.heap.size := Y2.out.lt
  obtain ⟨T, hTe⟩ : ∃ T, T = W.heap.size := ⟨_, rfl⟩
  obtain ⟨W1, hW1⟩ : ∃ W1, W1 = W.alloc (.cells #[.int .i64 3, .slice none 0 0, .slice none 0 0] 25) := ⟨_, rfl⟩
  have hb1 : Below W.heap.size W W1 := by rw [hW1]; exact bel1 W _
  have hsW : W1.heap.size = T + 1 := by rw [hW1, hTe]; simp
  have RT : Hid (RowB W1 T 25 #[.int .i64 3, .slice none 0 0, .slice none 0 0]) := by
    rw [hW1, hTe]
    exact RowB.new W 25 _
  have HTS : Hid (w.heap.size + 3 ≤ T) := by have := HWS.out; unfold Hid; omega
  have hTW : T < W1.heap.size := by omega
  have q2 := (Y1.out.below hb1 Y1.out.lt).cell
  have q3 := (Y2.out.below hb1 Y2.out.lt).cell
  have YR := Lib.hid (Y3.out.below hb1 Y3.out.lt)
  have hlS : w.heap.size < W1.heap.size := by omega
  have hnS : w.heap.size ≠ T := by have := HTS.out; omega
  have hlS1 : w.heap.size + 1 < W1.heap.size := by omega
  have hnS1 : w.heap.size + 1 ≠ T := by have := HTS.out; omega
  have HBW := Lib.hid (HB.out.trans (hb1.mono HB.out.size))
  have TA1 := Lib.hid (TI_iff.1 (TA.out.below hb1))
  have TB1 := Lib.hid (TI_iff.1 (TB.out.below hb1))
  simp only [names_mk, parts_mk] at TA1 TB1
  have hQl : ∀ g, ((P g ∨ P' g) ∧ g < w.heap.size) → g < W1.heap.size ∧ g ≠ T := fun g hg => ⟨by omega, by have := HTS.out; omega⟩
  have HQ2' := Lib.hid q2
  have HQ3' := Lib.hid q3
  clear hb1 Y1 Y2 Y3 TA TB HB HWS q2 q3
  go_wp2_with fail
  rw [← hW1]
  clear hW1 z1 z2 l1 l2
  rw [← hTe]
  clear hTe hsW
  go_loopg [6] (n + 1) (fun kx s6 wr => ∃ i : Nat, s6 = .int .i64 i ∧ n - i ≤ kx ∧ i ≤ n ∧ Hid (JS W1 T (fun g => (P g ∨ P' g) ∧ g < w.heap.size) (comR com nb pb (na.take i) (pa.take i)) wr))
  case atStart => exact ⟨0, rfl, by omega, by omega, ⟨_, _, _, RC.start W1 T _, RT.out⟩⟩
  case round =>
    obtain ⟨i, rfl, hkx, hin, HJ⟩ := hrel
    obtain ⟨V, hV⟩ : ∃ V, V = wr := ⟨_, rfl⟩
    subst hV
    have q2 := HQ2'.out
    have q3 := HQ3'.out
    obtain ⟨x1, x2, cs, hrc, hrow⟩ := HJ.out
    have z2 : ∀ j, V.cell? ⟨w.heap.size, j, none⟩ = (tarr 3 An n cn A n c)[j]? := fun j => (hrc.fr.cell (p := ⟨w.heap.size, j, none⟩) hlS hnS).trans (q2 j)
    by_cases hi : i < n
    · have hil : (i : Int) < (n : Int) := by omega
      obtain ⟨s, ex⟩ := get_lt (l := na) (i := i) (by rw [← HN.out.1]; exact hi)
      obtain ⟨pa1, ep⟩ := get_lt (l := pa) (i := i) (by rw [← HN.out.2.1]; exact hi)
      obtain ⟨g0, o0, hA0, hP0, hg0, yW, hz0⟩ := TA1.out.1.nth ex
      obtain ⟨ga, oa, Cn, fn, C, f, hA1, hP1, hga, htia, a0, a1, a2⟩ := TA1.out.2.nth ep
      have HEX := Lib.hid ex
      have HEP := Lib.hid ep
      have HTIA := Lib.hid htia
      have hlt0 : g0 < W1.heap.size := hg0
      have hne0 : g0 ≠ T := by have := HTS.out; have := hP0.2; omega
      have hlta : ga < W1.heap.size := hga
      have hnea : ga ≠ T := by have := HTS.out; have := hP1.2; omega
      obtain ⟨L, hL⟩ : ∃ L, L = comR com nb pb (na.take i) (pa.take i) := ⟨_, rfl⟩
      have HLL := Lib.hid hL
      have hLl : L.length ≤ 1000000 := by
        have h1 := comR_len (f := com) (bn := nb) (bp := pb) (na.take i) (pa.take i)
        rw [← hL, List.length_take] at h1
        omega
      rw [← hL] at HJ
      subst hA0 hA1
      clear ex ep htia hL hrc hrow x1 x2 cs hP0 hP1
      go_wp2_with fail
      clear z2
      go_loopg [7] (m + 1) (fun kx s7 wq => ∃ k : Nat, s7 = .int .i64 k ∧ m - k ≤ kx ∧ k ≤ m ∧ Hid (JS W1 T (fun g => (P g ∨ P' g) ∧ g < w.heap.size) (L ++ ent s pa1 (lk (nb.take k) (pb.take k) s)) wq))
      case atStart => exact ⟨0, rfl, by omega, by omega, by unfold Hid; simpa [lk, ent] using HJ.out⟩
      case round =>
        obtain ⟨k, rfl, hkx2, hkn, x1, x2, cs, hrc, hrow⟩ := hrel
        have z2 : ∀ j, wr.cell? ⟨w.heap.size, j, none⟩ = (tarr 3 (some ⟨g0, o0, none⟩) n cn (some ⟨ga, oa, none⟩) n c)[j]? := fun j => (hrc.fr.cell (p := ⟨w.heap.size, j, none⟩) hlS hnS).trans (q2 j)
        have z3 : ∀ j, wr.cell? ⟨w.heap.size + 1, j, none⟩ = (tarr 3 Bn m dn B m d)[j]? := fun j => (hrc.fr.cell (p := ⟨w.heap.size + 1, j, none⟩) hlS1 hnS1).trans (q3 j)
        by_cases hk : k < m
        · have hkl : (k : Int) < (m : Int) := by omega
          obtain ⟨y, ey⟩ := get_lt (l := nb) (i := k) (by rw [← HN.out.2.2.1]; exact hk)
          obtain ⟨pb1, eq⟩ := get_lt (l := pb) (i := k) (by rw [← HN.out.2.2.2]; exact hk)
          obtain ⟨g1, o1, hB0, hQ0, hg1, xW, hz1⟩ := TB1.out.1.nth ey
          obtain ⟨gb1, ob, Dn, en, DD, e5, hB1, hQ1, hgb, htib, b0, b1, b2⟩ := TB1.out.2.nth eq
          have hne1 : g1 ≠ T := by have := HTS.out; have := hQ0.2; omega
          have hltb : gb1 < W1.heap.size := hgb
          have hneb : gb1 ≠ T := by have := HTS.out; have := hQ1.2; omega
          have y0 := (hrc.fr.cell (p := ⟨g0, o0 + i, none⟩) hlt0 hne0).trans yW
          have y1 := (hrc.fr.cell (p := ⟨g1, o1 + k, none⟩) hg1 hne1).trans xW
          have HTIB := Lib.hid htib
          have HEY := Lib.hid ey
          have HEQ := Lib.hid eq
          obtain ⟨j, hj⟩ : ∃ j, j = k + 1 := ⟨_, rfl⟩
          subst hB0 hB1
          clear ey eq htib hQ0 hQ1
          by_cases hxy : s = y
          · subst hxy
            have hhit := lk_take_hit HEY.out HEQ.out HNDB.out (by have := HN.out; omega)
            rw [hhit.1] at hrc
            rw [← hj] at hhit
            have HHIT := Lib.hid hhit.2
            simp only [ent, List.append_nil] at hrc
            have HRC := Lib.hid hrc
            have HROW := Lib.hid hrow
            have hqq : (s.toList == s.toList) = true := by simp
            clear hrc hrow hhit
            go_upto_region 12 with fail
            go_quiet (fail)
            obtain ⟨wx, hwx⟩ : ∃ wx, wx = wr.drewN nq := ⟨_, rfl⟩
            have hbx : Below wr.heap.size wr wx := by rw [hwx]; exact below_drewN (Below.refl _ _) _
            rw [← hwx]
            clear hwx
            obtain ⟨nl, hnl⟩ : ∃ nl, nl = L.map Prod.fst := ⟨_, rfl⟩
            obtain ⟨tl, htl⟩ : ∃ tl, tl = L.map Prod.snd := ⟨_, rfl⟩
            have hl1 : nl.length ≤ 1000001 := by rw [hnl, List.length_map]; omega
            have hl2 : tl.length ≤ 1000001 := by rw [htl, List.length_map]; omega
            have h3 := HRC.out.below hbx
            rw [← hnl, ← htl] at h3
            have HQX := Lib.hid h3
            have HTX := Lib.hid (HROW.out.below hbx HROW.out.lt)
            have HNL := Lib.hid hnl
            have HTL := Lib.hid htl
            clear h3 hbx HRC HROW hnl htl z2 z3 y0 y1
            go_wp2_with fail
            go_upto_region 13 with fail
            obtain ⟨i9, hi9, hz9, hs9, hb9⟩ := info_parts info9
            have A0 := HQX.out.below (Below.drew (Below.refl wx.heap.size wx))
            have RT0 : RowB wx.drew T 25 #[.int .i64 3, x1, x2] := HTX.out
            have A1 := HQX.out.below (Below.drew (bel1 wx (.cells #[Value.string s] 9)))
            have RT1 : RowB (wx.alloc (.cells #[Value.string s] 9)).drew T 25 #[.int .i64 3, x1, x2] := HTX.out.alloc _
            have RX1 : RowB (wx.alloc (.cells #[Value.string s] 9)).drew wx.heap.size 9 #[Value.string s] := RowB.new wx 9 _
            have bb1 : nl.length + 1 ≤ maxLen := by unfold maxLen; omega
            have bb2 : (nl.length + 1) * 16 ≤ 140737488355328 := by omega
            have oc1 : ∀ u ∈ [Value.string s], u.oneCell' = true := by simp [Value.oneCell']
            have hsz1 : W1.heap.size ≤ (wx.alloc (.cells #[Value.string s] 9)).drew.heap.size := A1.fr.size
            refine wp_region_G (S := SG (fun w' => Fr T W1.heap.size W1 w') 8 (fun w' => w'.cell? ⟨T, 1, none⟩ = some x1) 8 (fun _ => True)) (by kernel_rfl) ⟨A0.fr, fun _ => RT0.cell 1, fun _ => trivial⟩ (fun hS => ?_)
            refine wpG_take0 (i := 0) (v := ?v1) rfl (by kernel_rfl) (by kernel_rfl) (by kernel_rfl) (by decide) (by decide) (fun _ _ _ h => h) hS (Or.inl ⟨by rfl, ?hy1⟩) ?rest1
            case hy1 => (intro w' hw; go_simp; try with_reducible rfl)
            replace hS := SG.set (i := 0) (by decide) (by decide) hS
            try simp only [Act.put, List.setIfInBounds_toArray, List.set_cons_zero, List.set_cons_succ]
            refine wpG_take1 (i := 1) (v := ?v2) rfl (by kernel_rfl) (by kernel_rfl) (by kernel_rfl) (by decide) (by decide) (by kernel_rfl) (by kernel_rfl) (fun _ _ _ h => h) hS (Or.inl ⟨by rfl, ?hy2⟩) ?rest2
            case hy2 => (intro w' hw; obtain ⟨hw, u9⟩ := hw; go_simp; try with_reducible rfl)
            replace hS := SG.set (i := 1) (by decide) (by decide) hS
            try simp only [Act.put, List.setIfInBounds_toArray, List.set_cons_zero, List.set_cons_succ]
            refine wpG_take0 (i := 2) (v := ?v3) rfl (by kernel_rfl) (by kernel_rfl) (by kernel_rfl) (by decide) (by decide) (fun _ _ _ h => h) hS (Or.inl ⟨by rfl, ?hy3⟩) ?rest3
            case hy3 => (intro w' hw; go_simp; try with_reducible rfl)
            replace hS := SG.set (i := 2) (by decide) (by decide) hS
            try simp only [Act.put, List.setIfInBounds_toArray, List.set_cons_zero, List.set_cons_succ]
            refine wpG_take0 (i := 3) (v := ?v4) rfl (by kernel_rfl) (by kernel_rfl) (by kernel_rfl) (by decide) (by decide) (fun _ _ _ h => h) hS (Or.inl ⟨by rfl, ?hy4⟩) ?rest4
            case hy4 => (intro w' hw; have u := fun j => (hw.cell (p := ⟨w.heap.size, j, none⟩) hlS hnS).trans (q2 j); go_simp; try with_reducible rfl)
            replace hS := SG.set (i := 3) (by decide) (by decide) hS
            try simp only [Act.put, List.setIfInBounds_toArray, List.set_cons_zero, List.set_cons_succ]
            refine wpG_take0 (i := 4) (v := ?v5) rfl (by kernel_rfl) (by kernel_rfl) (by kernel_rfl) (by decide) (by decide) (fun _ _ _ h => h) hS (Or.inl ⟨by rfl, ?hy5⟩) ?rest5
            case hy5 => (intro w' hw; go_simp; try with_reducible rfl)
            replace hS := SG.set (i := 4) (by decide) (by decide) hS
            try simp only [Act.put, List.setIfInBounds_toArray, List.set_cons_zero, List.set_cons_succ]
            refine wpG_take0 (i := 5) (v := ?v6) rfl (by kernel_rfl) (by kernel_rfl) (by kernel_rfl) (by decide) (by decide) (fun _ _ _ h => h) hS (Or.inl ⟨by rfl, ?hy6⟩) ?rest6
            case hy6 => (intro w' hw; go_simp; try with_reducible rfl)
            replace hS := SG.set (i := 5) (by decide) (by decide) hS
            try simp only [Act.put, List.setIfInBounds_toArray, List.set_cons_zero, List.set_cons_succ]
            refine wpG_take0 (i := 6) (v := ?v7) rfl (by kernel_rfl) (by kernel_rfl) (by kernel_rfl) (by decide) (by decide) (fun _ _ _ h => h) hS (Or.inl ⟨by rfl, ?hy7⟩) ?rest7
            case hy7 => (intro w' hw; have u := (hw.cell (p := ⟨g0, o0 + i, none⟩) hlt0 hne0).trans yW; go_simp; try with_reducible rfl)
            replace hS := SG.set (i := 6) (by decide) (by decide) hS
            try simp only [Act.put, List.setIfInBounds_toArray, List.set_cons_zero, List.set_cons_succ]
            refine wpG_ready (rs := [7]) (by kernel_rfl) (by simp) ?_
            refine RG.cons rfl rfl (fun K hK => ?_) RG.nil
            go_simp
            refine hK.out _ _ ⟨A1.fr, fun _ => RT1.cell 1, fun _ => trivial⟩ (fun hS => ?_)
            clear hK K
            try simp only [Act.put, List.setIfInBounds_toArray, List.set_cons_zero, List.set_cons_succ]
            refine wpG_ready (rs := [8]) (by kernel_rfl) (by simp) ?_
            refine RG.cons rfl rfl (fun K hK => ?_) RG.nil
            refine wp_append_lies (wx.alloc (.cells #[Value.string s] 9)).drew (.tmp 51) (.tmp 57) 22 (by rfl) W1.heap.size 9 i9 _ 1 16 Tryz.underlying22 hi9 hz9 hs9 hb9 rfl (by omega) x1 nl.length (nl.map Value.string) (by rfl) A1.o1 ⟨wx.heap.size, 0, none⟩ 1 1 [Value.string s] (by rfl) (by rfl) (World.news_of_block RX1) oc1 (by omega) bb1 bb2 hsz1 _ rfl ?_
            intro gg capa wy hown hgrow hat hlty
            have Q1 := A1.app1 (fun g hg => (hQl g hg).1) hown hgrow rfl hat
            have eT1 : (some T : Option Nat) ≠ x1.ownBlock := fun e => by have := (A1.o1.lt _ e.symm).1; omega
            have T1 := RT1.grown hgrow eT1
            clear hown hgrow hat
            refine hK.out _ _ ⟨Q1.fr, fun h => absurd (h : true = false) (by decide), fun _ => trivial⟩ (fun hS => ?_)
            clear hK K
            try simp only [Act.put, List.setIfInBounds_toArray, List.set_cons_zero, List.set_cons_succ]
            refine wpG_take0 (i := 9) (v := ?v8) rfl (by kernel_rfl) (by kernel_rfl) (by kernel_rfl) (by decide) (by decide) (fun _ _ _ h => h) hS (Or.inl ⟨by rfl, ?hy8⟩) ?rest8
            case hy8 => (intro w' hw; go_simp; try with_reducible rfl)
            replace hS := SG.set (i := 9) (by decide) (by decide) hS
            try simp only [Act.put, List.setIfInBounds_toArray, List.set_cons_zero, List.set_cons_succ]
            refine wpG_ready (rs := [10]) (by kernel_rfl) (by simp) ?_
            refine RG.cons rfl rfl (fun K hK => ?_) RG.nil
            have zt1 := T1.cell
            have zt1t := T1.thaw
            go_simp
            clear zt1 zt1t
            refine hK.out _ _ ⟨(Q1.put hTW 1 _).fr, fun h => absurd (h : true = false) (by decide), fun _ => trivial⟩ (fun hS => ?_)
            clear hK K
            try simp only [Act.put, List.setIfInBounds_toArray, List.set_cons_zero, List.set_cons_succ]
            refine wpG_done (by kernel_rfl) ?_ _
            have Q2 := Q1.put hTW 1 (.slice (some ⟨gg, 0, none⟩) (nl.length + 1) capa)
            have T2 : RowB (wy.setCell ⟨T, 1, none⟩ (.slice (some ⟨gg, 0, none⟩) (nl.length + 1) capa)) T 25 #[.int .i64 3, .slice (some ⟨gg, 0, none⟩) (nl.length + 1) capa, x2] := T1.put 1 _
            obtain ⟨y1, hy1⟩ : ∃ y1, y1 = Value.slice (some ⟨gg, 0, none⟩) (nl.length + 1) capa := ⟨_, rfl⟩
            rw [← hy1] at Q2 T2 ⊢
            obtain ⟨w2, hw2⟩ : ∃ w2, w2 = wy.setCell ⟨T, 1, none⟩ y1 := ⟨_, rfl⟩
            rw [← hw2] at Q2 T2 ⊢
            have HQ2 := Lib.hid Q2
            have HT2 := Lib.hid T2
            clear A0 RT0 A1 RT1 RX1 oc1 hsz1 Q1 T1 Q2 T2 HQX HTX hw2 hy1 hS bb1 bb2 hlty eT1
            go_wp2_with fail
            go_upto_region 14 with fail
            obtain ⟨iT, hiT, hzT, hsT, hbT⟩ := info_parts infoT
            have D2 : Below w2.heap.size w2 w2.drew := Below.drew (Below.refl _ _)
            have A2 := HQ2.out.below D2
            have RT2 : RowB w2.drew T 25 #[.int .i64 3, y1, x2] := HT2.out
            have bb3 : tl.length + 1 ≤ maxLen := by unfold maxLen; omega
            have bb4 : (tl.length + 1) * 56 ≤ 140737488355328 := by omega
            have eT2 : (some T : Option Nat) ≠ x2.ownBlock := fun e => by have := (A2.o2.lt _ e.symm).1; omega
            have C8 := Lib.hid (HIH.out pa1 (List.mem_of_getElem? HEP.out) pb1 (List.mem_of_getElem? HEQ.out) w2.drew _ _ Cn fn C f Dn en DD e5 (HTIA.out.keep (Q := fun g => P g ∧ g < w.heap.size) A2.fr.size fun g hg _ => ⟨A2.fr.block g (by omega) (by have := HTS.out; omega), hg⟩) (HTIB.out.keep (Q := fun g => P' g ∧ g < w.heap.size) A2.fr.size fun g hg _ => ⟨A2.fr.block g (by omega) (by have := HTS.out; omega), hg⟩))
            obtain ⟨ka1, na1, pp1⟩ := pa1
            obtain ⟨kb1, nb1, qp1⟩ := pb1
            simp only [kind_mk, names_mk, parts_mk] at a0 a1 a2 b0 b1 b2
            obtain ⟨T5, hT5⟩ : ∃ T5, T5 = com (.mk ka1 na1 pp1) (.mk kb1 nb1 qp1) := ⟨_, rfl⟩
            have HT5 := Lib.hid hT5
            rw [← hT5] at C8
            clear hT5
            obtain ⟨k5, n5, p5⟩ := T5
            try simp only [tv, kind_mk, names_mk, parts_mk] at C8
            refine wp_region_G (S := SG (fun w' => Fr T W1.heap.size W1 w') 14 (fun w' => w'.cell? ⟨T, 2, none⟩ = some x2) 14 (fun _ => True)) (by kernel_rfl) ⟨A2.fr, fun _ => RT2.cell 2, fun _ => trivial⟩ (fun hS => ?_)
            refine wpG_take0 (i := 0) (v := ?v9) rfl (by kernel_rfl) (by kernel_rfl) (by kernel_rfl) (by decide) (by decide) (fun _ _ _ h => h) hS (Or.inl ⟨by rfl, ?hy9⟩) ?rest9
            case hy9 => (intro w' hw; go_simp; try with_reducible rfl)
            replace hS := SG.set (i := 0) (by decide) (by decide) hS
            try simp only [Act.put, List.setIfInBounds_toArray, List.set_cons_zero, List.set_cons_succ]
            refine wpG_take1 (i := 1) (v := ?v10) rfl (by kernel_rfl) (by kernel_rfl) (by kernel_rfl) (by decide) (by decide) (by kernel_rfl) (by kernel_rfl) (fun _ _ _ h => h) hS (Or.inl ⟨by rfl, ?hy10⟩) ?rest10
            case hy10 => (intro w' hw; obtain ⟨hw, u9⟩ := hw; go_simp; try with_reducible rfl)
            replace hS := SG.set (i := 1) (by decide) (by decide) hS
            try simp only [Act.put, List.setIfInBounds_toArray, List.set_cons_zero, List.set_cons_succ]
            refine wpG_take0 (i := 2) (v := ?v11) rfl (by kernel_rfl) (by kernel_rfl) (by kernel_rfl) (by decide) (by decide) (fun _ _ _ h => h) hS (Or.inl ⟨by rfl, ?hy11⟩) ?rest11
            case hy11 => (intro w' hw; go_simp; try with_reducible rfl)
            replace hS := SG.set (i := 2) (by decide) (by decide) hS
            try simp only [Act.put, List.setIfInBounds_toArray, List.set_cons_zero, List.set_cons_succ]
            refine wpG_take0 (i := 3) (v := ?v12) rfl (by kernel_rfl) (by kernel_rfl) (by kernel_rfl) (by decide) (by decide) (fun _ _ _ h => h) hS (Or.inl ⟨by rfl, ?hy12⟩) ?rest12
            case hy12 => (intro w' hw; have u := fun j => (hw.cell (p := ⟨w.heap.size, j, none⟩) hlS hnS).trans (q2 j); go_simp; try with_reducible rfl)
            replace hS := SG.set (i := 3) (by decide) (by decide) hS
            try simp only [Act.put, List.setIfInBounds_toArray, List.set_cons_zero, List.set_cons_succ]
            refine wpG_take0 (i := 4) (v := ?v13) rfl (by kernel_rfl) (by kernel_rfl) (by kernel_rfl) (by decide) (by decide) (fun _ _ _ h => h) hS (Or.inl ⟨by rfl, ?hy13⟩) ?rest13
            case hy13 => (intro w' hw; go_simp; try with_reducible rfl)
            replace hS := SG.set (i := 4) (by decide) (by decide) hS
            try simp only [Act.put, List.setIfInBounds_toArray, List.set_cons_zero, List.set_cons_succ]
            refine wpG_take0 (i := 5) (v := ?v14) rfl (by kernel_rfl) (by kernel_rfl) (by kernel_rfl) (by decide) (by decide) (fun _ _ _ h => h) hS (Or.inl ⟨by rfl, ?hy14⟩) ?rest14
            case hy14 => (intro w' hw; go_simp; try with_reducible rfl)
            replace hS := SG.set (i := 5) (by decide) (by decide) hS
            try simp only [Act.put, List.setIfInBounds_toArray, List.set_cons_zero, List.set_cons_succ]
            refine wpG_take0 (i := 6) (v := ?v15) rfl (by kernel_rfl) (by kernel_rfl) (by kernel_rfl) (by decide) (by decide) (fun _ _ _ h => h) hS (Or.inl ⟨by rfl, ?hy15⟩) ?rest15
            case hy15 => (intro w' hw; have u0 := (hw.cell (p := ⟨ga, oa + i * 3, none⟩) hlta hnea).trans a0; have u1 := (hw.cell (p := ⟨ga, oa + i * 3 + 1, none⟩) hlta hnea).trans a1; have u2 := (hw.cell (p := ⟨ga, oa + i * 3 + 2, none⟩) hlta hnea).trans a2; go_simp; try with_reducible rfl)
            replace hS := SG.set (i := 6) (by decide) (by decide) hS
            try simp only [Act.put, List.setIfInBounds_toArray, List.set_cons_zero, List.set_cons_succ]
            refine wpG_take0 (i := 7) (v := ?v16) rfl (by kernel_rfl) (by kernel_rfl) (by kernel_rfl) (by decide) (by decide) (fun _ _ _ h => h) hS (Or.inl ⟨by rfl, ?hy16⟩) ?rest16
            case hy16 => (intro w' hw; go_simp; try with_reducible rfl)
            replace hS := SG.set (i := 7) (by decide) (by decide) hS
            try simp only [Act.put, List.setIfInBounds_toArray, List.set_cons_zero, List.set_cons_succ]
            refine wpG_take0 (i := 8) (v := ?v17) rfl (by kernel_rfl) (by kernel_rfl) (by kernel_rfl) (by decide) (by decide) (fun _ _ _ h => h) hS (Or.inl ⟨by rfl, ?hy17⟩) ?rest17
            case hy17 => (intro w' hw; have u := fun j => (hw.cell (p := ⟨w.heap.size + 1, j, none⟩) hlS1 hnS1).trans (q3 j); go_simp; try with_reducible rfl)
            replace hS := SG.set (i := 8) (by decide) (by decide) hS
            try simp only [Act.put, List.setIfInBounds_toArray, List.set_cons_zero, List.set_cons_succ]
            refine wpG_take0 (i := 9) (v := ?v18) rfl (by kernel_rfl) (by kernel_rfl) (by kernel_rfl) (by decide) (by decide) (fun _ _ _ h => h) hS (Or.inl ⟨by rfl, ?hy18⟩) ?rest18
            case hy18 => (intro w' hw; go_simp; try with_reducible rfl)
            replace hS := SG.set (i := 9) (by decide) (by decide) hS
            try simp only [Act.put, List.setIfInBounds_toArray, List.set_cons_zero, List.set_cons_succ]
            refine wpG_take0 (i := 10) (v := ?v19) rfl (by kernel_rfl) (by kernel_rfl) (by kernel_rfl) (by decide) (by decide) (fun _ _ _ h => h) hS (Or.inl ⟨by rfl, ?hy19⟩) ?rest19
            case hy19 => (intro w' hw; go_simp; try with_reducible rfl)
            replace hS := SG.set (i := 10) (by decide) (by decide) hS
            try simp only [Act.put, List.setIfInBounds_toArray, List.set_cons_zero, List.set_cons_succ]
            refine wpG_take0 (i := 11) (v := ?v20) rfl (by kernel_rfl) (by kernel_rfl) (by kernel_rfl) (by decide) (by decide) (fun _ _ _ h => h) hS (Or.inl ⟨by rfl, ?hy20⟩) ?rest20
            case hy20 => (intro w' hw; have u0 := (hw.cell (p := ⟨gb1, ob + k * 3, none⟩) hltb hneb).trans b0; have u1 := (hw.cell (p := ⟨gb1, ob + k * 3 + 1, none⟩) hltb hneb).trans b1; have u2 := (hw.cell (p := ⟨gb1, ob + k * 3 + 2, none⟩) hltb hneb).trans b2; go_simp; try with_reducible rfl)
            replace hS := SG.set (i := 11) (by decide) (by decide) hS
            try simp only [Act.put, List.setIfInBounds_toArray, List.set_cons_zero, List.set_cons_succ]
            refine wpG_ready (rs := [12]) (by kernel_rfl) (by simp) ?_
            refine RG.cons rfl rfl (fun K hK => ?_) RG.nil
            go_simp
            refine C8.out.mono ?_
            rintro e w3 ⟨h3, An5, cn5, A5, c5, rfl, ht5⟩
            go_wp2_with fail
            have Q3 := A2.below h3
            have T3 := RT2.below h3 RT2.lt
            refine hK.out _ _ ⟨Q3.fr, fun _ => T3.cell 2, fun _ => trivial⟩ (fun hS => ?_)
            clear hK K
            try simp only [Act.put, List.setIfInBounds_toArray, List.set_cons_zero, List.set_cons_succ]
            have Q3a := Q3.below (bel1 w3 (.cells #[Value.int .i64 k5, .slice An5 n5.length cn5, .slice A5 p5.length c5] 25))
            have hti := (A2.pend hQl hTW (ht5.mono (Q := fun g => ((P g ∨ P' g) ∧ g < w.heap.size) ∨ w2.drew.heap.size ≤ g) fun g hg => by rcases hg with (hg | hg) | hg <;> first | exact .inl ⟨.inl hg.1, hg.2⟩ | exact .inl ⟨.inr hg.1, hg.2⟩ | exact .inr hg)).below (bel1 w3 (.cells #[Value.int .i64 k5, .slice An5 n5.length cn5, .slice A5 p5.length c5] 25))
            have oc2 : ∀ u ∈ (#[Value.int .i64 k5, .slice An5 n5.length cn5, .slice A5 p5.length c5] : Array Value).toList, u.oneCell' = true := by simp [Value.oneCell']
            have hsz3 : W1.heap.size ≤ (w3.alloc (.cells #[Value.int .i64 k5, .slice An5 n5.length cn5, .slice A5 p5.length c5] 25)).heap.size := Q3a.fr.size
            refine wpG_ready (rs := [13]) (by kernel_rfl) (by simp) ?_
            refine RG.cons rfl rfl (fun K hK => ?_) RG.nil
            go_simp
            refine hK.out _ _ ⟨Q3a.fr, fun _ => (T3.alloc _).cell 2, fun _ => trivial⟩ (fun hS => ?_)
            clear hK K
            try simp only [Act.put, List.setIfInBounds_toArray, List.set_cons_zero, List.set_cons_succ]
            refine wpG_ready (rs := [14]) (by kernel_rfl) (by simp) ?_
            refine RG.cons rfl rfl (fun K hK => ?_) RG.nil
            refine wp_append_lies (w3.alloc (.cells #[Value.int .i64 k5, .slice An5 n5.length cn5, .slice A5 p5.length c5] 25)) (.tmp 61) (.tmp 73) 23 (by rfl) W1.heap.size 25 iT _ 3 56 Tryz.underlying23 hiT hzT hsT hbT rfl (by omega) x2 tl.length cs (by rfl) Q3a.o2 ⟨w3.heap.size, 0, none⟩ 1 1 (#[Value.int .i64 k5, .slice An5 n5.length cn5, .slice A5 p5.length c5] : Array Value).toList (by rfl) (by rfl) (World.news_of_block (RowB.new w3 25 #[Value.int .i64 k5, .slice An5 n5.length cn5, .slice A5 p5.length c5])) oc2 (by omega) bb3 bb4 hsz3 _ rfl ?_
            intro gb capb w5 hown2 hgrow2 hat2 hlt2'
            have Q5 := Q3a.app2 hti hown2 hgrow2 rfl hat2
            have T5r := (T3.alloc (.cells #[Value.int .i64 k5, .slice An5 n5.length cn5, .slice A5 p5.length c5] 25)).grown hgrow2 eT2
            clear hown2 hgrow2 hat2
            refine hK.out _ _ ⟨Q5.fr, fun h => absurd (h : true = false) (by decide), fun _ => trivial⟩ (fun hS => ?_)
            clear hK K
            try simp only [Act.put, List.setIfInBounds_toArray, List.set_cons_zero, List.set_cons_succ]
            refine wpG_take0 (i := 15) (v := ?v21) rfl (by kernel_rfl) (by kernel_rfl) (by kernel_rfl) (by decide) (by decide) (fun _ _ _ h => h) hS (Or.inl ⟨by rfl, ?hy21⟩) ?rest21
            case hy21 => (intro w' hw; go_simp; try with_reducible rfl)
            replace hS := SG.set (i := 15) (by decide) (by decide) hS
            try simp only [Act.put, List.setIfInBounds_toArray, List.set_cons_zero, List.set_cons_succ]
            refine wpG_ready (rs := [16]) (by kernel_rfl) (by simp) ?_
            refine RG.cons rfl rfl (fun K hK => ?_) RG.nil
            have zt1 := T5r.cell
            have zt1t := T5r.thaw
            go_simp
            clear zt1 zt1t
            refine hK.out _ _ ⟨(Q5.put hTW 2 _).fr, fun h => absurd (h : true = false) (by decide), fun _ => trivial⟩ (fun hS => ?_)
            clear hK K
            try simp only [Act.put, List.setIfInBounds_toArray, List.set_cons_zero, List.set_cons_succ]
            refine wpG_done (by kernel_rfl) ?_ _
            have HFIN : Hid (JS W1 T (fun g => (P g ∨ P' g) ∧ g < w.heap.size) (L ++ ent s (.mk ka1 na1 pp1) (lk (nb.take j) (pb.take j) s)) (w5.setCell ⟨T, 2, none⟩ (.slice (some ⟨gb, 0, none⟩) (tl.length + 1) capb))) := by
              unfold Hid
              rw [HHIT.out]
              have e1 : (L ++ ent s (.mk ka1 na1 pp1) (some (.mk kb1 nb1 qp1))).map Prod.fst = nl ++ [s] := by rw [HNL.out]; simp [ent]
              have e2 : (L ++ ent s (.mk ka1 na1 pp1) (some (.mk kb1 nb1 qp1))).map Prod.snd = tl ++ [.mk k5 n5 p5] := by rw [HTL.out, HT5.out]; simp [ent]
              have hf := Q5.put hTW 2 (.slice (some ⟨gb, 0, none⟩) (tl.length + 1) capb)
              rw [← e1, ← e2] at hf
              exact ⟨y1, _, _, hf, T5r.put 2 _⟩
            clear A2 RT2 Q3 T3 Q3a hti Q5 T5r hS h3 ht5 D2 bb3 bb4 eT2 oc2 hsz3 C8 HQ2 HT2
            go_wp2_with fail
            go_roundg (m - j)
            case measure => omega
            case rel => exact ⟨j, by rw [hj]; go_num, by omega, by omega, HFIN.out⟩
          · have hmis := lk_take_same HEY.out (fun e => hxy e.symm) (ps := pb) (by have := HN.out; omega)
            rw [← hj] at hmis
            have HMIS := Lib.hid hmis
            have hqq : (s.toList == y.toList) = false := by rw [beq_ba]; exact decide_eq_false hxy
            have HRC := Lib.hid hrc
            have HROW := Lib.hid hrow
            clear hrc hrow hmis hxy
            go_upto_region 12 with fail
            go_quiet (fail)
            obtain ⟨wx, hwx⟩ : ∃ wx, wx = wr.drewN nq := ⟨_, rfl⟩
            have hbx : Below wr.heap.size wr wx := by rw [hwx]; exact below_drewN (Below.refl _ _) _
            rw [← hwx]
            clear hwx
            have HFIN : Hid (JS W1 T (fun g => (P g ∨ P' g) ∧ g < w.heap.size) (L ++ ent s pa1 (lk (nb.take j) (pb.take j) s)) wx) := by
              unfold Hid
              rw [HMIS.out]
              exact ⟨x1, x2, cs, HRC.out.below hbx, HROW.out.below hbx HROW.out.lt⟩
            clear HRC HROW hbx z2 z3 y0 y1
            go_wp2_with fail
            go_roundg (m - j)
            case measure => omega
            case rel => exact ⟨j, by rw [hj]; go_num, by omega, by omega, HFIN.out⟩
        · have hkl : ¬ (k : Int) < (m : Int) := by omega
          obtain rfl : m = k := by omega
          rw [List.take_of_length_le (by rw [← HN.out.2.2.1]; exact Nat.le_refl _), List.take_of_length_le (by rw [← HN.out.2.2.2]; exact Nat.le_refl _)] at hrc
          obtain ⟨j, hj⟩ : ∃ j, j = i + 1 := ⟨_, rfl⟩
          have HFIN : Hid (JS W1 T (fun g => (P g ∨ P' g) ∧ g < w.heap.size) (comR com nb pb (na.take j) (pa.take j)) wr) := by
            unfold Hid
            have := comR_take (f := com) (bn := nb) (bp := pb) HEX.out HEP.out
            rw [hj, this, ← HLL.out]
            exact ⟨x1, x2, cs, hrc, hrow⟩
          clear hrc hrow z2
          go_wp2_with fail
          go_roundg (n - j)
          case measure => omega
          case rel => exact ⟨j, by rw [hj]; go_num, by omega, by omega, HFIN.out⟩
    · have hil : ¬ (i : Int) < (n : Int) := by omega
      obtain rfl : n = i := by omega
      rw [List.take_of_length_le (by rw [← HN.out.1]; exact Nat.le_refl _), List.take_of_length_le (by rw [← HN.out.2.1]; exact Nat.le_refl _)] at hrc
      obtain ⟨An', cn', A', c', e1, e2, hti⟩ := hrc.out (fun s hs => TA1.out.1.2.1 s (comR_sub hs)) hTW 3
      have Z3 := Lib.hid (hrc.fr.row YR.out (by have := HTS.out; omega) (by have := HTS.out; omega))
      have HTI := Lib.hid hti
      have HBF : Hid (Below w.heap.size w V) := HBW.out.trans (hrc.fr.below (by omega) (by have := HTS.out; omega))
      have z3 := Z3.out.cell
      have z3t := Z3.out.thaw
      have zT := hrow.cell
      have hltT : T < V.heap.size := hrow.lt
      obtain ⟨l, hl⟩ : ∃ l, l = comR com nb pb na pa := ⟨_, rfl⟩
      rw [← hl] at e1 e2 HTI
      have HLE := Lib.hid hl
      subst e1 e2
      clear hti hrc hrow hi hl HJ
      go_wp2_with fail
      refine bodyPost_ret (v := tv (recOf l) An' cn' A' c') ?_ rfl ⟨below_put3 HBF.out (by omega) _ _ _, An', cn', A', c', by rw [← HLE.out], ?_⟩
      · simp [results, Tryz.results35, go_sem, z3]
        try first | rfl | exact ⟨rfl, rfl⟩ | simp [recOf]
      · rw [← HLE.out]
        refine HTI.out.put3 (fun g hg => ?_) _ _ _
        rcases hg.1 with h | h
        · exact ⟨.inl h.1, by omega⟩
        · exact ⟨.inr (by have := HTS.out; omega), by have := HTS.out; omega⟩
end Tm
end Go.Proofs.YtifkjngclkklfaaGreatDoor
/- Contracts: slices cloned; a type's twin. -/
namespace Go.Proofs.YtifkjngclkklfaaGreatDoor
open Go.RowKit Go.Op
namespace Tm
set_option maxHeartbeats 4000000 in
set_option maxRecDepth 100000 in
theorem clone_tys (w : World) (ps : List Ty) (P : Nat → Prop) (A : Option Addr) (c : Nat) (h : TV w P ps A c) (hl : ps.length ≤ 1000001) :
    Calls Tryz.prog 57 #[.slice A ps.length c] w fun e w' => ∃ v cs, e = .returned v ∧ TL w' (fun g => P g ∧ g < w.heap.size) ps cs ∧ w'.ownsRow w.heap.size 25 3 v ps.length cs ∧ Below w.heap.size w w' := by
  have q22 : ∀ (w : World) (a : Option Addr) (n c n' c' : Nat), (binOp .eql 23 (.slice a n c) (.slice none n' c')).run Tryz.prog w = .ok (.bool a.isNone) w := fun w a n c n' c' => Lib.run_eql_slice_nil w _ _ a n c n' c' Tryz.underlying23
  cases A with
  | none =>
    have h0 : ps = [] := by
      cases ps with
      | nil => rfl
      | cons p ps => obtain ⟨g, o, ck, e, _⟩ := h.2 (by simp); cases e
    subst h0
    clear h
    go_enter Tryz.func57, Tryz.ntmps57
    go_wp2_with fail
    (first | go_ret | go_ret2)
    exact ⟨_, [], rfl, by rw [TL], World.ownsRow_nil _ _ _ _, Below.refl _ _⟩
  | some ad =>
    have h := h.low
    obtain ⟨ck, tl, sc⟩ := h.cells
    have b1 := bel1 w (.cells #[] 25)
    have hown : (w.alloc (.cells #[] 25)).ownsRow w.heap.size 25 3 (.slice (some ⟨w.heap.size, 0, none⟩) 0 0) 0 [] := World.ownsRow_made w #[] 0 (Nat.le_refl _) (Nat.zero_le _) (by simp)
    obtain ⟨v', w1, hr, ho, hg⟩ := append_tys (w := w.alloc (.cells #[] 25)) w.heap.size _ 0 [] hown (some ad) ps.length c ck (TL.len _ _ tl) (fun h0 => by
      obtain ⟨g, o, e, hlt, hc⟩ := sc h0
      exact ⟨g, o, e, fun j u hu => (b1.cell (p := ⟨g, o + j, none⟩) hlt).trans (hc j u hu)⟩) (TL.cell1 _ _ tl) (by omega) b1.size
    have hb : Below w.heap.size w w1 := b1.grown hg b1.size (by intro k hk; simp [Value.ownBlock] at hk; omega)
    have htl : TL w1 (fun g => P g ∧ g < w.heap.size) ps ck := TL.keep hb.size (fun g hg hl => ⟨hb.block g hl, hg⟩) _ _ tl
    rw [Nat.zero_add, List.nil_append] at ho
    have HO := Lib.hid ho
    have HTL := Lib.hid htl
    have HB := Lib.hid hb
    obtain ⟨n, hn⟩ : ∃ n, n = ps.length := ⟨_, rfl⟩
    rw [← hn] at hr HO ⊢
    clear h tl sc b1 hown ho hg hb htl hn
    go_enter Tryz.func57, Tryz.ntmps57
    go_wp2_with (at_builtin; refine Lib.wpList_append_run _ rfl _ _ _ _ rfl _ _ rfl rfl _ _ hr ?_)
    (first | go_ret | go_ret2)
    exact ⟨_, _, rfl, HTL.out, HO.out, HB.out⟩
set_option maxHeartbeats 4000000 in
set_option maxRecDepth 100000 in
theorem clone_names (w : World) (ns : List ByteArray) (P : Nat → Prop) (A : Option Addr) (c : Nat) (h : NV w P ns A c) (hl : ns.length ≤ 1000001) :
    Calls Tryz.prog 56 #[.slice A ns.length c] w fun e w' => ∃ A' c', e = .returned (.slice A' ns.length c') ∧ NV w' (fun g => w.heap.size ≤ g) ns A' c' ∧ Below w.heap.size w w' := by
  have q22 : ∀ (w : World) (a : Option Addr) (n c n' c' : Nat), (binOp .eql 22 (.slice a n c) (.slice none n' c')).run Tryz.prog w = .ok (.bool a.isNone) w := fun w a n c n' c' => Lib.run_eql_slice_nil w _ _ a n c n' c' Tryz.underlying22
  cases A with
  | none =>
    have h0 : ns = [] := by
      cases ns with
      | nil => rfl
      | cons p ps => obtain ⟨g, o, e, _⟩ := h.2.2 (by simp); cases e
    subst h0
    clear h
    go_enter Tryz.func56, Tryz.ntmps56
    go_wp2_with fail
    (first | go_ret | go_ret2)
    exact ⟨none, 0, rfl, NV.nil _ _ _ _, Below.refl _ _⟩
  | some ad =>
    have b1 := bel1 w (.cells #[] 9)
    have hown : (w.alloc (.cells #[] 9)).ownsRow w.heap.size 9 1 (.slice (some ⟨w.heap.size, 0, none⟩) 0 0) 0 [] := World.ownsRow_made w #[] 0 (Nat.le_refl _) (Nat.zero_le _) (by simp)
    obtain ⟨v', w1, hr, ho, hg⟩ := append_names (w := w.alloc (.cells #[] 9)) w.heap.size _ 0 [] hown (some ad) c ns (fun h0 => by
      obtain ⟨g, o, e, _, hlt, hc⟩ := h.2.2 h0
      exact ⟨g, o, e, fun j u hu => (b1.cell (p := ⟨g, o + j, none⟩) hlt).trans (hc j u hu)⟩) (by omega) b1.size
    have hb : Below w.heap.size w w1 := b1.grown hg b1.size (by intro k hk; simp [Value.ownBlock] at hk; omega)
    rw [Nat.zero_add, List.nil_append] at ho
    obtain ⟨A', c', rfl, hc⟩ := own_shape ho
    have hnv : NV w1 (fun g => w.heap.size ≤ g) ns A' c' := NV.of_own ho rfl h.2.1 (fun g hg _ => hg) hc
    have HNV := Lib.hid hnv
    have HB := Lib.hid hb
    obtain ⟨n, hn⟩ : ∃ n, n = ns.length := ⟨_, rfl⟩
    rw [← hn] at hr ⊢
    clear h b1 hown ho hg hb hnv hn hc
    go_enter Tryz.func56, Tryz.ntmps56
    go_wp2_with (at_builtin; refine Lib.wpList_append_run _ rfl _ _ _ _ rfl _ _ rfl rfl _ _ hr ?_)
    (first | go_ret | go_ret2)
    exact ⟨_, _, rfl, HNV.out, HB.out⟩
end Tm
end Go.Proofs.YtifkjngclkklfaaGreatDoor
