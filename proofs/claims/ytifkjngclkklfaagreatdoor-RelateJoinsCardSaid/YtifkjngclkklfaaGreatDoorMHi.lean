/- Contracts: what two functions have in common, by the document; Join. -/
import Derived.Test.YtifkjngclkklfaaGreatDoorMHh
namespace Go.Proofs.YtifkjngclkklfaaGreatDoor
open Go.RowKit Go.Op
namespace Tm
theorem initT_take {l : List Ty} {n : Nat} (h : n + 1 = l.length) : initT l = l.take n := by
  unfold initT
  rw [← h]
  rfl
set_option maxHeartbeats 16000000 in
set_option maxRecDepth 100000 in
theorem rjoin_fn (na nb : List ByteArray) (pa pb : List Ty) (ra : (Ty.mk 4 na pa).right = true) (rb : (Ty.mk 4 nb pb).right = true) (ca : (Ty.mk 4 na pa).cnt ≤ 1000001) (cb : (Ty.mk 4 nb pb).cnt ≤ 1000001) (IH : RJIH pa pb) (hll : pa.length = pb.length)
    (w : World) (P P' : Nat → Prop) (An : Option Addr) (cn : Nat) (A : Option Addr) (c : Nat) (Bn : Option Addr) (dn : Nat) (B : Option Addr) (d : Nat) (hA : TI w P (.mk 4 na pa) An cn A c) (hB : TI w P' (.mk 4 nb pb) Bn dn B d) (hsm : (Ty.mk 4 na pa).same (.mk 4 nb pb) = false) :
    Calls Tryz.prog 35 #[.agg #[.int .i64 4, .slice An na.length cn, .slice A pa.length c], .agg #[.int .i64 4, .slice Bn nb.length dn, .slice B pb.length d]] w (MadeQ (fun g => (P g ∨ P' g) ∨ w.heap.size ≤ g) (com (.mk 4 na pa) (.mk 4 nb pb)) w) := by
  have p1 := (right_fn ra rfl).2
  simp only [parts_mk] at p1
  have hcc0 := com_fn ra rb rfl rfl
  obtain ⟨n, hn⟩ : ∃ n, n + 1 = pa.length := ⟨pa.length - 1, by omega⟩
  have hcc : com (.mk 4 na pa) (.mk 4 nb pb) = if pa.take n = pb.take n then fnOf (pa.take n) (com (lastT pa) (lastT pb)) else dyn := by
    rw [hcc0]
    simp only [parts_mk, initT_take hn, initT_take (hn.trans hll)]
  clear hcc0
  have hla : pa[n]? = some (lastT pa) := by rw [lastT_get p1, List.getElem?_eq_some_iff]; exact ⟨by omega, by congr 1; omega⟩
  have hlb : pb[n]? = some (lastT pb) := by rw [lastT_get (by omega), List.getElem?_eq_some_iff]; exact ⟨by omega, by congr 1; omega⟩
  have HCC := Lib.hid hcc
  have HLA := Lib.hid hla
  have HLB := Lib.hid hlb
  have hca := ca
  have hcb := cb
  rw [Ty.cnt] at hca hcb
  have hca2 := cntL_len pa
  have HCP : Hid (∀ p ∈ pa, p.cnt ≤ 1000001) := fun p hp => by have := cnt_mem hp; omega
  have HCQ : Hid (∀ p ∈ pb, p.cnt ≤ 1000001) := fun p hp => by have := cnt_mem hp; omega
  have HIH := Lib.hid IH
  have HNN := Lib.hid hn
  have HLL := Lib.hid hll
  have hn1 : n ≤ 1000001 := by omega
  clear hcc IH hla hlb hca hcb hca2 hn hll p1
  replace hA : TI w (fun g => P g ∧ g < w.heap.size) (.mk 4 na pa) An cn A c := hA.keep (Nat.le_refl _) fun g h hlt => ⟨rfl, h, hlt⟩
  replace hB : TI w (fun g => P' g ∧ g < w.heap.size) (.mk 4 nb pb) Bn dn B d := hB.keep (Nat.le_refl _) fun g h hlt => ⟨rfl, h, hlt⟩
  obtain ⟨lna, hlna⟩ : ∃ n, n = na.length := ⟨_, rfl⟩
  obtain ⟨lpa, hlpa⟩ : ∃ n, n = pa.length := ⟨_, rfl⟩
  obtain ⟨lnb, hlnb⟩ : ∃ n, n = nb.length := ⟨_, rfl⟩
  obtain ⟨lpb, hlpb⟩ : ∃ n, n = pb.length := ⟨_, rfl⟩
  obtain ⟨S, hS⟩ : ∃ S, S = w.heap.size := ⟨_, rfl⟩
  have b1 := bel1 w (.cells (tarr 4 An lna cn A lpa c) 25)
  obtain ⟨w1, h1⟩ : ∃ w1, w1 = w.alloc (.cells (tarr 4 An lna cn A lpa c) 25) := ⟨_, rfl⟩
  have s1 : w1.heap.size = S + 1 := by rw [h1, hS]; simp
  have R1 : RowB w1 S 25 (tarr 4 An lna cn A lpa c) := by rw [h1, hS]; exact RowB.new w 25 _
  rw [← h1] at b1
  obtain ⟨w2, h2⟩ : ∃ w2, w2 = w1.alloc (.cells (tarr 4 Bn lnb dn B lpb d) 25) := ⟨_, rfl⟩
  have b2 : Below w1.heap.size w1 w2 := by rw [h2]; exact bel1 w1 _
  have s2 : w2.heap.size = S + 2 := by rw [h2]; simp [s1]
  have R2 : RowB w2 (S + 1) 25 (tarr 4 Bn lnb dn B lpb d) := by rw [h2, ← s1]; exact RowB.new w1 25 _
  obtain ⟨w3, h3⟩ : ∃ w3, w3 = w2.alloc (.cells tzc 25) := ⟨_, rfl⟩
  have b3 : Below w2.heap.size w2 w3 := by rw [h3]; exact bel1 w2 _
  have s3 : w3.heap.size = S + 3 := by rw [h3]; simp [s2]
  have R3 : RowB w3 (S + 2) 25 tzc := by rw [h3, ← s2]; exact RowB.new w2 25 _
  have b23 := b2.trans (b3.mono b2.size)
  have b13 := b1.trans (b23.mono b1.size)
  have X1 := R1.below b23 R1.lt
  have X2 := R2.below b3 R2.lt
  have hTA := hA.below b13
  have hTB := hB.below b13
  have C0 := rsame_any (.mk 4 na pa) ca (.mk 4 nb pb) cb w3 _ _ An cn A c Bn dn B d hTA hTB
  obtain ⟨zz, hz⟩ : ∃ z, z = (Ty.mk 4 na pa).same (.mk 4 nb pb) := ⟨_, rfl⟩
  rw [← hz] at C0
  simp only [tv, kind_mk, names_mk, parts_mk, ← hlna, ← hlpa, ← hlnb, ← hlpb] at C0
  have C1 := Lib.hid C0
  have e1 : w3 = ((w.alloc (.cells (tarr 4 An lna cn A lpa c) 25)).alloc (.cells (tarr 4 Bn lnb dn B lpb d) 25)).alloc (.cells tzc 25) := by rw [h3, h2, h1]
  have x1 := X1.cell
  have x2 := X2.cell
  rw [hS] at X1 X2 R3 s3 x1 x2
  rw [e1] at x1 x2
  have HB0 := Lib.hid b13
  have HX1 := Lib.hid X1
  have HX2 := Lib.hid X2
  have HX3 := Lib.hid R3
  have HTA := Lib.hid hTA
  have HTB := Lib.hid hTB
  have HS3 := Lib.hid s3
  have HLN := Lib.hid (And.intro hlna (And.intro hlpa (And.intro hlnb hlpb)))
  have HZ := Lib.hid hz
  have HRA := Lib.hid ra
  have HRB := Lib.hid rb
  have HCA := Lib.hid ca
  have HCB := Lib.hid cb
  rw [← hlna, ← hlpa, ← hlnb, ← hlpb]
  clear h1 h2 h3 s1 s2 s3 R1 R2 R3 b1 b2 b3 b23 b13 hA hB hTA hTB C0 hz hS X1 X2 w1 w2 ra rb ca cb hlna hlpa hlnb hlpb
  go_enter Tryz.func35, Tryz.ntmps35
  go_wp2_with fail
  rw [← e1]
  refine C1.out.mono ?_
  rintro e W ⟨rfl, hb1⟩
  have Y1 := Lib.hid (HX1.out.below hb1 HX1.out.lt)
  have Y2 := Lib.hid (HX2.out.below hb1 HX2.out.lt)
  have Y3 := Lib.hid (HX3.out.below hb1 HX3.out.lt)
  have HB := Lib.hid (HB0.out.trans (hb1.mono HB0.out.size))
  have TA := Lib.hid (HTA.out.below hb1)
  have TB := Lib.hid (HTB.out.below hb1)
  have HWS : Hid (w.heap.size + 3 ≤ W.heap.size) := by unfold Hid; have := hb1.size; rw [HS3.out] at this; exact this
  clear hb1 C1 e1 x1 x2 HX1 HX2 HX3 HB0 HTA HTB HS3

  have hzz : zz = false := HZ.out.trans hsm
  clear hsm
  subst hzz
  have e2 : lpa = n + 1 := by have := HLN.out; have := HNN.out; omega
  have e4 : lpb = n + 1 := by have := HLN.out; have := HNN.out; have := HLL.out; omega
  subst e2 e4
  have HN : Hid (n < pa.length ∧ n < pb.length) := by have := HNN.out; have := HLL.out; unfold Hid; omega
  clear HLN
  have l1 : w.heap.size < W.heap.size := Y1.out.lt
  have l2 : w.heap.size + 1 < W.heap.size := Y2.out.lt
  have z1 := Y1.out.cell
  have z2 := Y2.out.cell
  obtain ⟨T1, hT1⟩ : ∃ T1, T1 = W.heap.size := ⟨_, rfl⟩
  obtain ⟨W0, hW0⟩ : ∃ W0, W0 = W.alloc (.cells tzc 25) := ⟨_, rfl⟩
  have hb1 : Below W.heap.size W W0 := by rw [hW0]; exact bel1 W _
  have RT1 : Hid (RowB W0 T1 25 tzc) := by
    rw [hW0, hT1]
    exact RowB.new W 25 _
  have V1 := Lib.hid (Y1.out.below hb1 Y1.out.lt)
  have V2 := Lib.hid (Y2.out.below hb1 Y2.out.lt)
  have V3 := Lib.hid (Y3.out.below hb1 Y3.out.lt)
  have HBW := Lib.hid (HB.out.trans (hb1.mono HB.out.size))
  have TA1 := Lib.hid (TI_iff.1 (TA.out.below hb1)).2
  have TB1 := Lib.hid (TI_iff.1 (TB.out.below hb1)).2
  simp only [parts_mk] at TA1 TB1
  have HTS : Hid (w.heap.size + 3 ≤ T1) := by have := HWS.out; unfold Hid; omega
  have hw2 : IntKind.i64.wrap ((n : Int) + 1 - 1) = (n : Int) := by rw [IntKind.wrap_i64]; omega
  clear hb1 Y1 Y2 Y3 TA TB HB HWS
  go_wp2_with fail
  rw [← hW0, ← hT1]
  clear hW0 hT1 z1 z2 l1 l2
  go_loopg [9] (n + 1) (fun kx s9 wr => ∃ i : Nat, s9 = .int .i64 i ∧ n - i ≤ kx ∧ i ≤ n ∧ Hid (pa.take i = pb.take i) ∧ Hid (Below W0.heap.size W0 wr))
  case atStart => exact ⟨0, rfl, by omega, by omega, by simp [Hid], Below.refl _ _⟩
  case round =>
    obtain ⟨i, rfl, hkx, hin, HEQ, HBr⟩ := hrel
    have X1 := Lib.hid (V1.out.below HBr.out V1.out.lt)
    have X2 := Lib.hid (V2.out.below HBr.out V2.out.lt)
    have X3 := Lib.hid (V3.out.below HBr.out V3.out.lt)
    have XT := Lib.hid (RT1.out.below HBr.out RT1.out.lt)
    by_cases hi : i < n
    · have hil : (i : Int) < (n : Int) := by omega
      have hil2 : (i : Int) < (n : Int) + 1 := by omega
      obtain ⟨p, ep⟩ := get_lt (l := pa) (i := i) (by have := HN.out; omega)
      obtain ⟨q, eq⟩ := get_lt (l := pb) (i := i) (by have := HN.out; omega)
      obtain ⟨ga, oa, Cn, fn, C, f, hA1, _, hga, htia, a0, a1, a2⟩ := (TA1.out.below HBr.out).nth ep
      obtain ⟨gb, ob, Dn, en, DD, e5, hB1, _, hgb, htib, b0, b1, b2⟩ := (TB1.out.below HBr.out).nth eq
      have hD : Hid (Below wr.heap.size wr wr.drew) := Below.drew (Below.refl _ _)
      have C2 := Lib.hid (rsame_any p (HCP.out p (List.mem_of_getElem? ep)) q (HCQ.out q (List.mem_of_getElem? eq)) wr.drew _ _ Cn fn C f Dn en DD e5 (htia.below hD.out) (htib.below hD.out))
      obtain ⟨bb, hbb⟩ : ∃ b, b = p.same q := ⟨_, rfl⟩
      rw [← hbb] at C2
      obtain ⟨j, hj⟩ : ∃ j, j = i + 1 := ⟨_, rfl⟩
      have HST : Hid (bb = true → pa.take j = pb.take j) := fun h => by
        have e := (Ty.same_iff _ _).1 (hbb.symm.trans h)
        rw [hj, List.take_add_one, List.take_add_one, ep, eq, HEQ.out, e]
      have HDI : Hid (bb = false → pa.take n ≠ pb.take n) := fun h e => by
        have e1 : (pa.take n)[i]? = (pb.take n)[i]? := by rw [e]
        rw [List.getElem?_take_of_lt hi, List.getElem?_take_of_lt hi, ep, eq] at e1
        injection e1 with e1
        rw [e1, same_refl] at hbb
        rw [h] at hbb
        cases hbb
      have hl1 := X1.out.lt
      have hl2 := X2.out.lt
      have r1 := X1.out.cell
      have r2 := X2.out.cell
      subst hA1 hB1
      obtain ⟨kp, np, pp⟩ := p
      obtain ⟨kq, nq2, pq⟩ := q
      simp only [tv, kind_mk, names_mk, parts_mk] at C2 a0 a1 a2 b0 b1 b2
      clear ep eq htia htib hbb HEQ
      go_upto_region 22 with fail
      refine wp_region_G (S := SG (fun w' => Below wr.heap.size wr w') 99 (fun _ => True) 99 (fun _ => True)) (by kernel_rfl) ⟨hD.out, fun _ => trivial, fun _ => trivial⟩ (fun hS => ?_)
      refine wpG_take0 (i := 0) (v := ?v1) rfl (by kernel_rfl) (by kernel_rfl) (by kernel_rfl) (by decide) (by decide) (fun _ _ _ h => h) hS (Or.inl ⟨by rfl, ?hy1⟩) ?rest1
      case hy1 => (intro w' hw; go_simp; try with_reducible rfl)
      replace hS := SG.set (i := 0) (by decide) (by decide) hS
      try simp only [Act.put, List.setIfInBounds_toArray, List.set_cons_zero, List.set_cons_succ]
      refine wpG_take0 (i := 1) (v := ?v2) rfl (by kernel_rfl) (by kernel_rfl) (by kernel_rfl) (by decide) (by decide) (fun _ _ _ h => h) hS (Or.inl ⟨by rfl, ?hy2⟩) ?rest2
      case hy2 => (intro w' hw; have u := fun j => (hw.cell (p := ⟨w.heap.size, j, none⟩) hl1).trans (r1 j); go_simp; try with_reducible rfl)
      replace hS := SG.set (i := 1) (by decide) (by decide) hS
      try simp only [Act.put, List.setIfInBounds_toArray, List.set_cons_zero, List.set_cons_succ]
      refine wpG_take0 (i := 2) (v := ?v3) rfl (by kernel_rfl) (by kernel_rfl) (by kernel_rfl) (by decide) (by decide) (fun _ _ _ h => h) hS (Or.inl ⟨by rfl, ?hy3⟩) ?rest3
      case hy3 => (intro w' hw; go_simp; try with_reducible rfl)
      replace hS := SG.set (i := 2) (by decide) (by decide) hS
      try simp only [Act.put, List.setIfInBounds_toArray, List.set_cons_zero, List.set_cons_succ]
      refine wpG_take0 (i := 3) (v := ?v4) rfl (by kernel_rfl) (by kernel_rfl) (by kernel_rfl) (by decide) (by decide) (fun _ _ _ h => h) hS (Or.inl ⟨by rfl, ?hy4⟩) ?rest4
      case hy4 => (intro w' hw; go_simp; try with_reducible rfl)
      replace hS := SG.set (i := 3) (by decide) (by decide) hS
      try simp only [Act.put, List.setIfInBounds_toArray, List.set_cons_zero, List.set_cons_succ]
      refine wpG_take0 (i := 4) (v := ?v5) rfl (by kernel_rfl) (by kernel_rfl) (by kernel_rfl) (by decide) (by decide) (fun _ _ _ h => h) hS (Or.inl ⟨by rfl, ?hy5⟩) ?rest5
      case hy5 => (intro w' hw; have u0 := (hw.cell (p := ⟨ga, oa + i * 3, none⟩) hga).trans a0; have u1 := (hw.cell (p := ⟨ga, oa + i * 3 + 1, none⟩) hga).trans a1; have u2 := (hw.cell (p := ⟨ga, oa + i * 3 + 2, none⟩) hga).trans a2; go_simp; try with_reducible rfl)
      replace hS := SG.set (i := 4) (by decide) (by decide) hS
      try simp only [Act.put, List.setIfInBounds_toArray, List.set_cons_zero, List.set_cons_succ]
      refine wpG_take0 (i := 5) (v := ?v6) rfl (by kernel_rfl) (by kernel_rfl) (by kernel_rfl) (by decide) (by decide) (fun _ _ _ h => h) hS (Or.inl ⟨by rfl, ?hy6⟩) ?rest6
      case hy6 => (intro w' hw; go_simp; try with_reducible rfl)
      replace hS := SG.set (i := 5) (by decide) (by decide) hS
      try simp only [Act.put, List.setIfInBounds_toArray, List.set_cons_zero, List.set_cons_succ]
      refine wpG_take0 (i := 6) (v := ?v7) rfl (by kernel_rfl) (by kernel_rfl) (by kernel_rfl) (by decide) (by decide) (fun _ _ _ h => h) hS (Or.inl ⟨by rfl, ?hy7⟩) ?rest7
      case hy7 => (intro w' hw; have u := fun j => (hw.cell (p := ⟨w.heap.size + 1, j, none⟩) hl2).trans (r2 j); go_simp; try with_reducible rfl)
      replace hS := SG.set (i := 6) (by decide) (by decide) hS
      try simp only [Act.put, List.setIfInBounds_toArray, List.set_cons_zero, List.set_cons_succ]
      refine wpG_take0 (i := 7) (v := ?v8) rfl (by kernel_rfl) (by kernel_rfl) (by kernel_rfl) (by decide) (by decide) (fun _ _ _ h => h) hS (Or.inl ⟨by rfl, ?hy8⟩) ?rest8
      case hy8 => (intro w' hw; go_simp; try with_reducible rfl)
      replace hS := SG.set (i := 7) (by decide) (by decide) hS
      try simp only [Act.put, List.setIfInBounds_toArray, List.set_cons_zero, List.set_cons_succ]
      refine wpG_take0 (i := 8) (v := ?v9) rfl (by kernel_rfl) (by kernel_rfl) (by kernel_rfl) (by decide) (by decide) (fun _ _ _ h => h) hS (Or.inl ⟨by rfl, ?hy9⟩) ?rest9
      case hy9 => (intro w' hw; go_simp; try with_reducible rfl)
      replace hS := SG.set (i := 8) (by decide) (by decide) hS
      try simp only [Act.put, List.setIfInBounds_toArray, List.set_cons_zero, List.set_cons_succ]
      refine wpG_take0 (i := 9) (v := ?v10) rfl (by kernel_rfl) (by kernel_rfl) (by kernel_rfl) (by decide) (by decide) (fun _ _ _ h => h) hS (Or.inl ⟨by rfl, ?hy10⟩) ?rest10
      case hy10 => (intro w' hw; have u0 := (hw.cell (p := ⟨gb, ob + i * 3, none⟩) hgb).trans b0; have u1 := (hw.cell (p := ⟨gb, ob + i * 3 + 1, none⟩) hgb).trans b1; have u2 := (hw.cell (p := ⟨gb, ob + i * 3 + 2, none⟩) hgb).trans b2; go_simp; try with_reducible rfl)
      replace hS := SG.set (i := 9) (by decide) (by decide) hS
      try simp only [Act.put, List.setIfInBounds_toArray, List.set_cons_zero, List.set_cons_succ]
      refine wpG_ready (rs := [10]) (by kernel_rfl) (by simp) ?_
      refine RG.cons rfl rfl (fun K hK => ?_) RG.nil
      go_simp
      refine C2.out.mono ?_
      rintro e x3 ⟨rfl, hx3⟩
      go_wp2_with fail
      have HG3 := Lib.hid (hD.out.trans (hx3.mono hD.out.size))
      clear hx3
      refine hK.out _ _ ⟨HG3.out, fun _ => trivial, fun _ => trivial⟩ (fun hS => ?_)
      clear hK K
      try simp only [Act.put, List.setIfInBounds_toArray, List.set_cons_zero, List.set_cons_succ]
      refine wpG_take0 (i := 11) (v := ?v11) rfl (by kernel_rfl) (by kernel_rfl) (by kernel_rfl) (by decide) (by decide) (fun _ _ _ h => h) hS (Or.inl ⟨by rfl, ?hy11⟩) ?rest11
      case hy11 => (intro w' hw; go_simp; try with_reducible rfl)
      replace hS := SG.set (i := 11) (by decide) (by decide) hS
      try simp only [Act.put, List.setIfInBounds_toArray, List.set_cons_zero, List.set_cons_succ]
      refine wpG_done (by kernel_rfl) ?_ _
      have HBF := Lib.hid (HBr.out.trans (HG3.out.mono HBr.out.size))
      have XTF := Lib.hid (XT.out.below HG3.out XT.out.lt)
      have X3F := Lib.hid (X3.out.below HG3.out X3.out.lt)
      clear hS C2 HG3 r1 r2 hl1 hl2 a0 a1 a2 b0 b1 b2 hga hgb hD X1 X2 X3 XT HBr
      cases bb with
      | true =>
        have HST2 := Lib.hid (HST.out (by first | rfl | trivial))
        clear HST HDI XTF X3F
        go_wp2_with fail
        go_roundg (n - j)
        case measure => omega
        case rel => exact ⟨j, by rw [hj]; go_num, by omega, by omega, HST2.out, HBF.out⟩
      | false =>
        have HDI2 := HDI.out (by first | rfl | trivial)
        have HC : Hid (com (.mk 4 na pa) (.mk 4 nb pb) = dyn) := by unfold Hid; rw [HCC.out, if_neg HDI2]
        have HBE := Lib.hid (HBW.out.trans (HBF.out.mono HBW.out.size))
        have zt := XTF.out.cell
        have z3 := X3F.out.cell
        have z3t := X3F.out.thaw
        have l3 := XTF.out.lt
        clear HST HDI HDI2
        go_wp2_with fail
        refine bodyPost_ret (v := tz) ?_ rfl ⟨below_put3 HBE.out (by omega) _ _ _, none, 0, none, 0, by rw [HC.out]; rfl, by rw [HC.out]; exact TI_iff.2 ⟨NV.nil _ _ _ _, TV.nil _ _ _ _⟩⟩
        simp [results, Tryz.results35, go_sem, z3]
        try first | rfl | exact ⟨rfl, rfl⟩
    · have hil : ¬ (i : Int) < (n : Int) := by omega
      obtain rfl : n = i := by omega
      have hcc := HCC.out
      rw [if_pos HEQ.out] at hcc
      have HCF := Lib.hid hcc
      obtain ⟨V, hV⟩ : ∃ V, V = wr := ⟨_, rfl⟩
      subst hV
      obtain ⟨T, hTe⟩ : ∃ T, T = V.heap.size := ⟨_, rfl⟩
      obtain ⟨W1, hW1⟩ : ∃ W1, W1 = V.alloc (.cells #[.int .i64 4, .slice none 0 0, .slice none 0 0] 25) := ⟨_, rfl⟩
      have hb1 : Below V.heap.size V W1 := by rw [hW1]; exact bel1 V _
      have hsW : W1.heap.size = T + 1 := by rw [hW1, hTe]; simp
      have RT : Hid (RowB W1 T 25 #[.int .i64 4, .slice none 0 0, .slice none 0 0]) := by
        rw [hW1, hTe]
        exact RowB.new V 25 _
      have HTSV : Hid (w.heap.size + 3 ≤ T) := by have := HTS.out; have := XT.out.lt; unfold Hid; omega
      have hTW : T < W1.heap.size := by omega
      have q2 := (X1.out.below hb1 X1.out.lt).cell
      have q3 := (X2.out.below hb1 X2.out.lt).cell
      have YR := Lib.hid (X3.out.below hb1 X3.out.lt)
      have hlS : w.heap.size < W1.heap.size := by have := HTSV.out; omega
      have hnS : w.heap.size ≠ T := by have := HTSV.out; omega
      have hlS1 : w.heap.size + 1 < W1.heap.size := by have := HTSV.out; omega
      have hnS1 : w.heap.size + 1 ≠ T := by have := HTSV.out; omega
      have HBV := Lib.hid (HBW.out.trans ((HBr.out.trans (hb1.mono HBr.out.size)).mono HBW.out.size))
      have TA2 := Lib.hid (TA1.out.below (HBr.out.trans (hb1.mono HBr.out.size)))
      have TB2 := Lib.hid (TB1.out.below (HBr.out.trans (hb1.mono HBr.out.size)))
      have hQl : ∀ g, ((P g ∨ P' g) ∧ g < w.heap.size) → g < W1.heap.size ∧ g ≠ T := fun g hg => ⟨by omega, by have := HTSV.out; omega⟩
      have HQ2' := Lib.hid q2
      have HQ3' := Lib.hid q3
      clear hb1 X1 X2 X3 XT V1 V2 V3 TA1 TB1 HBW HBr q2 q3 hcc HEQ HCC hi HTS RT1
      go_wp2_with fail
      rw [← hW1, ← hTe]
      clear hW1 hTe hsW
      go_loopg [11] (n + 1) (fun kx s11 wr => ∃ i : Nat, s11 = .int .i64 i ∧ n - i ≤ kx ∧ i ≤ n ∧ Hid (JF W1 T (fun g => (P g ∨ P' g) ∧ g < w.heap.size) (pa.take i) wr))
      case atStart => exact ⟨0, rfl, by omega, by omega, ⟨_, _, RC.start W1 T _, RT.out⟩⟩
      case round =>
        obtain ⟨i, rfl, hkx2, hin2, x2, cs, hrc, hrow⟩ := hrel
        have q2 := HQ2'.out
        have q3 := HQ3'.out
        have hln : (pa.take i).length = i := by rw [List.length_take]; have := HN.out; omega
        by_cases hi : i < n
        · have hil : (i : Int) < (n : Int) := by omega
          have hil2 : (i : Int) < (n : Int) + 1 := by omega
          obtain ⟨pa1, ep⟩ := get_lt (l := pa) (i := i) (by have := HN.out; omega)
          obtain ⟨ga, oa, Cn, fn, C, f, hA1, hP1, hga, htia, a0, a1, a2⟩ := TA2.out.nth ep
          have hlta : ga < W1.heap.size := hga
          have hnea : ga ≠ T := by have := HTSV.out; have := hP1.2; omega
          obtain ⟨j, hj⟩ : ∃ j, j = i + 1 := ⟨_, rfl⟩
          have HTK : Hid (pa.take j = pa.take i ++ [pa1]) := by unfold Hid; rw [hj, List.take_add_one, ep]; rfl
          have HTIA := Lib.hid htia
          obtain ⟨w2, hw2⟩ : ∃ w2, w2 = wr := ⟨_, rfl⟩
          subst hw2
          obtain ⟨tl, htl⟩ : ∃ tl, tl = pa.take i := ⟨_, rfl⟩
          rw [← htl] at hrc HTK hln
          have HQ2 := Lib.hid hrc
          have HT2 := Lib.hid hrow
          have hl2 : tl.length ≤ 1000001 := by omega
          subst hA1
          clear ep htia hP1 hrc hrow htl hln
          go_wp2_with fail
          go_upto_region 28 with fail
          obtain ⟨iT, hiT, hzT, hsT, hbT⟩ := info_parts infoT
          have D2 : Below w2.heap.size w2 w2.drew := Below.drew (Below.refl _ _)
          have A2 := HQ2.out.below D2
          have RT2 : RowB w2.drew T 25 #[.int .i64 4, .slice none 0 0, x2] := HT2.out
          have bb3 : tl.length + 1 ≤ maxLen := by unfold maxLen; omega
          have bb4 : (tl.length + 1) * 56 ≤ 140737488355328 := by omega
          have eT2 : (some T : Option Nat) ≠ x2.ownBlock := fun e => by have := (A2.o2.lt _ e.symm).1; omega
          obtain ⟨k5, n5, p5⟩ := pa1
          simp only [kind_mk, names_mk, parts_mk] at a0 a1 a2
          refine wp_region_G (S := SG (fun w' => Fr T W1.heap.size W1 w') 8 (fun w' => w'.cell? ⟨T, 2, none⟩ = some x2) 8 (fun _ => True)) (by kernel_rfl) ⟨A2.fr, fun _ => RT2.cell 2, fun _ => trivial⟩ (fun hS => ?_)
          refine wpG_take0 (i := 0) (v := ?v12) rfl (by kernel_rfl) (by kernel_rfl) (by kernel_rfl) (by decide) (by decide) (fun _ _ _ h => h) hS (Or.inl ⟨by rfl, ?hy12⟩) ?rest12
          case hy12 => (intro w' hw; go_simp; try with_reducible rfl)
          replace hS := SG.set (i := 0) (by decide) (by decide) hS
          try simp only [Act.put, List.setIfInBounds_toArray, List.set_cons_zero, List.set_cons_succ]
          refine wpG_take1 (i := 1) (v := ?v13) rfl (by kernel_rfl) (by kernel_rfl) (by kernel_rfl) (by decide) (by decide) (by kernel_rfl) (by kernel_rfl) (fun _ _ _ h => h) hS (Or.inl ⟨by rfl, ?hy13⟩) ?rest13
          case hy13 => (intro w' hw; obtain ⟨hw, u9⟩ := hw; go_simp; try with_reducible rfl)
          replace hS := SG.set (i := 1) (by decide) (by decide) hS
          try simp only [Act.put, List.setIfInBounds_toArray, List.set_cons_zero, List.set_cons_succ]
          refine wpG_take0 (i := 2) (v := ?v14) rfl (by kernel_rfl) (by kernel_rfl) (by kernel_rfl) (by decide) (by decide) (fun _ _ _ h => h) hS (Or.inl ⟨by rfl, ?hy14⟩) ?rest14
          case hy14 => (intro w' hw; go_simp; try with_reducible rfl)
          replace hS := SG.set (i := 2) (by decide) (by decide) hS
          try simp only [Act.put, List.setIfInBounds_toArray, List.set_cons_zero, List.set_cons_succ]
          refine wpG_take0 (i := 3) (v := ?v15) rfl (by kernel_rfl) (by kernel_rfl) (by kernel_rfl) (by decide) (by decide) (fun _ _ _ h => h) hS (Or.inl ⟨by rfl, ?hy15⟩) ?rest15
          case hy15 => (intro w' hw; have u := fun j => (hw.cell (p := ⟨w.heap.size, j, none⟩) hlS hnS).trans (q2 j); go_simp; try with_reducible rfl)
          replace hS := SG.set (i := 3) (by decide) (by decide) hS
          try simp only [Act.put, List.setIfInBounds_toArray, List.set_cons_zero, List.set_cons_succ]
          refine wpG_take0 (i := 4) (v := ?v16) rfl (by kernel_rfl) (by kernel_rfl) (by kernel_rfl) (by decide) (by decide) (fun _ _ _ h => h) hS (Or.inl ⟨by rfl, ?hy16⟩) ?rest16
          case hy16 => (intro w' hw; go_simp; try with_reducible rfl)
          replace hS := SG.set (i := 4) (by decide) (by decide) hS
          try simp only [Act.put, List.setIfInBounds_toArray, List.set_cons_zero, List.set_cons_succ]
          refine wpG_take0 (i := 5) (v := ?v17) rfl (by kernel_rfl) (by kernel_rfl) (by kernel_rfl) (by decide) (by decide) (fun _ _ _ h => h) hS (Or.inl ⟨by rfl, ?hy17⟩) ?rest17
          case hy17 => (intro w' hw; go_simp; try with_reducible rfl)
          replace hS := SG.set (i := 5) (by decide) (by decide) hS
          try simp only [Act.put, List.setIfInBounds_toArray, List.set_cons_zero, List.set_cons_succ]
          refine wpG_take0 (i := 6) (v := ?v18) rfl (by kernel_rfl) (by kernel_rfl) (by kernel_rfl) (by decide) (by decide) (fun _ _ _ h => h) hS (Or.inl ⟨by rfl, ?hy18⟩) ?rest18
          case hy18 => (intro w' hw; have u0 := (hw.cell (p := ⟨ga, oa + i * 3, none⟩) hlta hnea).trans a0; have u1 := (hw.cell (p := ⟨ga, oa + i * 3 + 1, none⟩) hlta hnea).trans a1; have u2 := (hw.cell (p := ⟨ga, oa + i * 3 + 2, none⟩) hlta hnea).trans a2; go_simp; try with_reducible rfl)
          replace hS := SG.set (i := 6) (by decide) (by decide) hS
          try simp only [Act.put, List.setIfInBounds_toArray, List.set_cons_zero, List.set_cons_succ]
          have Q3a := A2.below (bel1 w2.drew (.cells #[Value.int .i64 k5, .slice Cn n5.length fn, .slice C p5.length f] 25))
          have hti := (A2.pend hQl hTW ((HTIA.out.keep (Q := fun g => P g ∧ g < w.heap.size) A2.fr.size fun g hg _ => ⟨A2.fr.block g (by omega) (by have := HTSV.out; omega), hg⟩).mono (Q := fun g => ((P g ∨ P' g) ∧ g < w.heap.size) ∨ w2.drew.heap.size ≤ g) fun g hg => .inl ⟨.inl hg.1, hg.2⟩)).below (bel1 w2.drew (.cells #[Value.int .i64 k5, .slice Cn n5.length fn, .slice C p5.length f] 25))
          have oc2 : ∀ u ∈ (#[Value.int .i64 k5, .slice Cn n5.length fn, .slice C p5.length f] : Array Value).toList, u.oneCell' = true := by simp [Value.oneCell']
          have hsz3 : W1.heap.size ≤ (w2.drew.alloc (.cells #[Value.int .i64 k5, .slice Cn n5.length fn, .slice C p5.length f] 25)).heap.size := Q3a.fr.size
          refine wpG_ready (rs := [7]) (by kernel_rfl) (by simp) ?_
          refine RG.cons rfl rfl (fun K hK => ?_) RG.nil
          go_simp
          refine hK.out _ _ ⟨Q3a.fr, fun _ => (RT2.alloc _).cell 2, fun _ => trivial⟩ (fun hS => ?_)
          clear hK K
          try simp only [Act.put, List.setIfInBounds_toArray, List.set_cons_zero, List.set_cons_succ]
          refine wpG_ready (rs := [8]) (by kernel_rfl) (by simp) ?_
          refine RG.cons rfl rfl (fun K hK => ?_) RG.nil
          refine wp_append_lies (w2.drew.alloc (.cells #[Value.int .i64 k5, .slice Cn n5.length fn, .slice C p5.length f] 25)) (.tmp 124) (.tmp 130) 23 (by rfl) W1.heap.size 25 iT _ 3 56 Tryz.underlying23 hiT hzT hsT hbT rfl (by omega) x2 tl.length cs (by rfl) Q3a.o2 ⟨w2.drew.heap.size, 0, none⟩ 1 1 (#[Value.int .i64 k5, .slice Cn n5.length fn, .slice C p5.length f] : Array Value).toList (by rfl) (by rfl) (World.news_of_block (RowB.new w2.drew 25 #[Value.int .i64 k5, .slice Cn n5.length fn, .slice C p5.length f])) oc2 (by omega) bb3 bb4 hsz3 _ rfl ?_
          intro gb capb w5 hown2 hgrow2 hat2 hlt2'
          have Q5 := Q3a.app2 hti hown2 hgrow2 rfl hat2
          have T5r := (RT2.alloc (.cells #[Value.int .i64 k5, .slice Cn n5.length fn, .slice C p5.length f] 25)).grown hgrow2 eT2
          clear hown2 hgrow2 hat2
          refine hK.out _ _ ⟨Q5.fr, fun h => absurd (h : true = false) (by decide), fun _ => trivial⟩ (fun hS => ?_)
          clear hK K
          try simp only [Act.put, List.setIfInBounds_toArray, List.set_cons_zero, List.set_cons_succ]
          refine wpG_take0 (i := 9) (v := ?v19) rfl (by kernel_rfl) (by kernel_rfl) (by kernel_rfl) (by decide) (by decide) (fun _ _ _ h => h) hS (Or.inl ⟨by rfl, ?hy19⟩) ?rest19
          case hy19 => (intro w' hw; go_simp; try with_reducible rfl)
          replace hS := SG.set (i := 9) (by decide) (by decide) hS
          try simp only [Act.put, List.setIfInBounds_toArray, List.set_cons_zero, List.set_cons_succ]
          refine wpG_ready (rs := [10]) (by kernel_rfl) (by simp) ?_
          refine RG.cons rfl rfl (fun K hK => ?_) RG.nil
          have zt1 := T5r.cell
          have zt1t := T5r.thaw
          go_simp
          clear zt1 zt1t
          refine hK.out _ _ ⟨(Q5.put hTW 2 _).fr, fun h => absurd (h : true = false) (by decide), fun _ => trivial⟩ (fun hS => ?_)
          clear hK K
          try simp only [Act.put, List.setIfInBounds_toArray, List.set_cons_zero, List.set_cons_succ]
          refine wpG_done (by kernel_rfl) ?_ _
          have HFIN : Hid (JF W1 T (fun g => (P g ∨ P' g) ∧ g < w.heap.size) (pa.take j) (w5.setCell ⟨T, 2, none⟩ (.slice (some ⟨gb, 0, none⟩) (tl.length + 1) capb))) := by
            unfold Hid
            have hf := Q5.put hTW 2 (.slice (some ⟨gb, 0, none⟩) (tl.length + 1) capb)
            rw [HTK.out]
            exact ⟨_, _, hf, T5r.put 2 _⟩
          clear A2 RT2 Q3a hti Q5 T5r hS D2 bb3 bb4 eT2 oc2 hsz3 HQ2 HT2
          go_wp2_with fail
          go_roundg (n - j)
          case measure => omega
          case rel => exact ⟨j, by rw [hj]; go_num, by omega, by omega, HFIN.out⟩
        · have hil : ¬ (i : Int) < (n : Int) := by omega
          obtain rfl : n = i := by omega
          have hnn1 : (n : Int) < (n : Int) + 1 := by omega
          obtain ⟨pa1, hpa1⟩ : ∃ p, p = lastT pa := ⟨_, rfl⟩
          obtain ⟨pb1, hpb1⟩ : ∃ p, p = lastT pb := ⟨_, rfl⟩
          have hla := HLA.out
          have hlb := HLB.out
          rw [← hpa1] at hla
          rw [← hpb1] at hlb
          obtain ⟨ga, oa, Cn, fn, C, f, hA1, hP1, hga, htia, a0, a1, a2⟩ := TA2.out.nth hla
          obtain ⟨gb1, ob, Dn, en, DD, e5, hB1, hQ1, hgb, htib, b0, b1, b2⟩ := TB2.out.nth hlb
          have hlta : ga < W1.heap.size := hga
          have hnea : ga ≠ T := by have := HTSV.out; have := hP1.2; omega
          have hltb : gb1 < W1.heap.size := hgb
          have hneb : gb1 ≠ T := by have := HTSV.out; have := hQ1.2; omega
          have HTIA := Lib.hid htia
          have HTIB := Lib.hid htib
          have HMA := Lib.hid (List.mem_of_getElem? hla)
          have HMB := Lib.hid (List.mem_of_getElem? hlb)
          obtain ⟨w2, hw2⟩ : ∃ w2, w2 = wr := ⟨_, rfl⟩
          subst hw2
          obtain ⟨tl, htl⟩ : ∃ tl, tl = pa.take n := ⟨_, rfl⟩
          rw [← htl] at hrc hln
          rw [← hpa1, ← hpb1, ← htl] at HCF
          have HQ2 := Lib.hid hrc
          have HT2 := Lib.hid hrow
          have hl2 : tl.length ≤ 1000001 := by omega
          subst hA1 hB1
          clear hla hlb htia htib hP1 hQ1 hrc hrow htl hln hpa1 hpb1 HLA HLB hi
          go_wp2_with fail
          go_upto_region 29 with fail
          obtain ⟨iT, hiT, hzT, hsT, hbT⟩ := info_parts infoT
          have D2 : Below w2.heap.size w2 w2.drew := Below.drew (Below.refl _ _)
          have A2 := HQ2.out.below D2
          have RT2 : RowB w2.drew T 25 #[.int .i64 4, .slice none 0 0, x2] := HT2.out
          have bb3 : tl.length + 1 ≤ maxLen := by unfold maxLen; omega
          have bb4 : (tl.length + 1) * 56 ≤ 140737488355328 := by omega
          have eT2 : (some T : Option Nat) ≠ x2.ownBlock := fun e => by have := (A2.o2.lt _ e.symm).1; omega
          have C8 := Lib.hid (HIH.out pa1 HMA.out pb1 HMB.out w2.drew _ _ Cn fn C f Dn en DD e5 (HTIA.out.keep (Q := fun g => P g ∧ g < w.heap.size) A2.fr.size fun g hg _ => ⟨A2.fr.block g (by omega) (by have := HTSV.out; omega), hg⟩) (HTIB.out.keep (Q := fun g => P' g ∧ g < w.heap.size) A2.fr.size fun g hg _ => ⟨A2.fr.block g (by omega) (by have := HTSV.out; omega), hg⟩))
          obtain ⟨ka1, na1, pp1⟩ := pa1
          obtain ⟨kb1, nb1, qp1⟩ := pb1
          simp only [kind_mk, names_mk, parts_mk] at a0 a1 a2 b0 b1 b2
          obtain ⟨T5, hT5⟩ : ∃ T5, T5 = com (.mk ka1 na1 pp1) (.mk kb1 nb1 qp1) := ⟨_, rfl⟩
          have HT5 := Lib.hid hT5
          rw [← hT5] at C8
          clear hT5
          obtain ⟨k5, n5, p5⟩ := T5
          try simp only [tv, kind_mk, names_mk, parts_mk] at C8
          refine wp_region_G (S := SG (fun w' => Fr T W1.heap.size W1 w') 14 (fun w' => w'.cell? ⟨T, 2, none⟩ = some x2) 14 (fun _ => True)) (by kernel_rfl) ⟨A2.fr, fun _ => RT2.cell 2, fun _ => trivial⟩ (fun hS => ?_)
          refine wpG_take0 (i := 0) (v := ?v20) rfl (by kernel_rfl) (by kernel_rfl) (by kernel_rfl) (by decide) (by decide) (fun _ _ _ h => h) hS (Or.inl ⟨by rfl, ?hy20⟩) ?rest20
          case hy20 => (intro w' hw; go_simp; try with_reducible rfl)
          replace hS := SG.set (i := 0) (by decide) (by decide) hS
          try simp only [Act.put, List.setIfInBounds_toArray, List.set_cons_zero, List.set_cons_succ]
          refine wpG_take1 (i := 1) (v := ?v21) rfl (by kernel_rfl) (by kernel_rfl) (by kernel_rfl) (by decide) (by decide) (by kernel_rfl) (by kernel_rfl) (fun _ _ _ h => h) hS (Or.inl ⟨by rfl, ?hy21⟩) ?rest21
          case hy21 => (intro w' hw; obtain ⟨hw, u9⟩ := hw; go_simp; try with_reducible rfl)
          replace hS := SG.set (i := 1) (by decide) (by decide) hS
          try simp only [Act.put, List.setIfInBounds_toArray, List.set_cons_zero, List.set_cons_succ]
          refine wpG_take0 (i := 2) (v := ?v22) rfl (by kernel_rfl) (by kernel_rfl) (by kernel_rfl) (by decide) (by decide) (fun _ _ _ h => h) hS (Or.inl ⟨by rfl, ?hy22⟩) ?rest22
          case hy22 => (intro w' hw; go_simp; try with_reducible rfl)
          replace hS := SG.set (i := 2) (by decide) (by decide) hS
          try simp only [Act.put, List.setIfInBounds_toArray, List.set_cons_zero, List.set_cons_succ]
          refine wpG_take0 (i := 3) (v := ?v23) rfl (by kernel_rfl) (by kernel_rfl) (by kernel_rfl) (by decide) (by decide) (fun _ _ _ h => h) hS (Or.inl ⟨by rfl, ?hy23⟩) ?rest23
          case hy23 => (intro w' hw; have u := fun j => (hw.cell (p := ⟨w.heap.size, j, none⟩) hlS hnS).trans (q2 j); go_simp; try with_reducible rfl)
          replace hS := SG.set (i := 3) (by decide) (by decide) hS
          try simp only [Act.put, List.setIfInBounds_toArray, List.set_cons_zero, List.set_cons_succ]
          refine wpG_take0 (i := 4) (v := ?v24) rfl (by kernel_rfl) (by kernel_rfl) (by kernel_rfl) (by decide) (by decide) (fun _ _ _ h => h) hS (Or.inl ⟨by rfl, ?hy24⟩) ?rest24
          case hy24 => (intro w' hw; go_simp; try with_reducible rfl)
          replace hS := SG.set (i := 4) (by decide) (by decide) hS
          try simp only [Act.put, List.setIfInBounds_toArray, List.set_cons_zero, List.set_cons_succ]
          refine wpG_take0 (i := 5) (v := ?v25) rfl (by kernel_rfl) (by kernel_rfl) (by kernel_rfl) (by decide) (by decide) (fun _ _ _ h => h) hS (Or.inl ⟨by rfl, ?hy25⟩) ?rest25
          case hy25 => (intro w' hw; go_simp; try with_reducible rfl)
          replace hS := SG.set (i := 5) (by decide) (by decide) hS
          try simp only [Act.put, List.setIfInBounds_toArray, List.set_cons_zero, List.set_cons_succ]
          refine wpG_take0 (i := 6) (v := ?v26) rfl (by kernel_rfl) (by kernel_rfl) (by kernel_rfl) (by decide) (by decide) (fun _ _ _ h => h) hS (Or.inl ⟨by rfl, ?hy26⟩) ?rest26
          case hy26 => (intro w' hw; have u0 := (hw.cell (p := ⟨ga, oa + n * 3, none⟩) hlta hnea).trans a0; have u1 := (hw.cell (p := ⟨ga, oa + n * 3 + 1, none⟩) hlta hnea).trans a1; have u2 := (hw.cell (p := ⟨ga, oa + n * 3 + 2, none⟩) hlta hnea).trans a2; go_simp; try with_reducible rfl)
          replace hS := SG.set (i := 6) (by decide) (by decide) hS
          try simp only [Act.put, List.setIfInBounds_toArray, List.set_cons_zero, List.set_cons_succ]
          refine wpG_take0 (i := 7) (v := ?v27) rfl (by kernel_rfl) (by kernel_rfl) (by kernel_rfl) (by decide) (by decide) (fun _ _ _ h => h) hS (Or.inl ⟨by rfl, ?hy27⟩) ?rest27
          case hy27 => (intro w' hw; go_simp; try with_reducible rfl)
          replace hS := SG.set (i := 7) (by decide) (by decide) hS
          try simp only [Act.put, List.setIfInBounds_toArray, List.set_cons_zero, List.set_cons_succ]
          refine wpG_take0 (i := 8) (v := ?v28) rfl (by kernel_rfl) (by kernel_rfl) (by kernel_rfl) (by decide) (by decide) (fun _ _ _ h => h) hS (Or.inl ⟨by rfl, ?hy28⟩) ?rest28
          case hy28 => (intro w' hw; have u := fun j => (hw.cell (p := ⟨w.heap.size + 1, j, none⟩) hlS1 hnS1).trans (q3 j); go_simp; try with_reducible rfl)
          replace hS := SG.set (i := 8) (by decide) (by decide) hS
          try simp only [Act.put, List.setIfInBounds_toArray, List.set_cons_zero, List.set_cons_succ]
          refine wpG_take0 (i := 9) (v := ?v29) rfl (by kernel_rfl) (by kernel_rfl) (by kernel_rfl) (by decide) (by decide) (fun _ _ _ h => h) hS (Or.inl ⟨by rfl, ?hy29⟩) ?rest29
          case hy29 => (intro w' hw; go_simp; try with_reducible rfl)
          replace hS := SG.set (i := 9) (by decide) (by decide) hS
          try simp only [Act.put, List.setIfInBounds_toArray, List.set_cons_zero, List.set_cons_succ]
          refine wpG_take0 (i := 10) (v := ?v30) rfl (by kernel_rfl) (by kernel_rfl) (by kernel_rfl) (by decide) (by decide) (fun _ _ _ h => h) hS (Or.inl ⟨by rfl, ?hy30⟩) ?rest30
          case hy30 => (intro w' hw; go_simp; try with_reducible rfl)
          replace hS := SG.set (i := 10) (by decide) (by decide) hS
          try simp only [Act.put, List.setIfInBounds_toArray, List.set_cons_zero, List.set_cons_succ]
          refine wpG_take0 (i := 11) (v := ?v31) rfl (by kernel_rfl) (by kernel_rfl) (by kernel_rfl) (by decide) (by decide) (fun _ _ _ h => h) hS (Or.inl ⟨by rfl, ?hy31⟩) ?rest31
          case hy31 => (intro w' hw; have u0 := (hw.cell (p := ⟨gb1, ob + n * 3, none⟩) hltb hneb).trans b0; have u1 := (hw.cell (p := ⟨gb1, ob + n * 3 + 1, none⟩) hltb hneb).trans b1; have u2 := (hw.cell (p := ⟨gb1, ob + n * 3 + 2, none⟩) hltb hneb).trans b2; go_simp; try with_reducible rfl)
          replace hS := SG.set (i := 11) (by decide) (by decide) hS
          try simp only [Act.put, List.setIfInBounds_toArray, List.set_cons_zero, List.set_cons_succ]
          refine wpG_ready (rs := [12]) (by kernel_rfl) (by simp) ?_
          refine RG.cons rfl rfl (fun K hK => ?_) RG.nil
          go_simp
          refine C8.out.mono ?_
          rintro e w3 ⟨h3, An5, cn5, A5, c5, rfl, ht5⟩
          go_wp2_with fail
          have Q3 := A2.below h3
          have T3 := RT2.below h3 RT2.lt
          refine hK.out _ _ ⟨Q3.fr, fun _ => T3.cell 2, fun _ => trivial⟩ (fun hS => ?_)
          clear hK K
          try simp only [Act.put, List.setIfInBounds_toArray, List.set_cons_zero, List.set_cons_succ]
          have Q3a := Q3.below (bel1 w3 (.cells #[Value.int .i64 k5, .slice An5 n5.length cn5, .slice A5 p5.length c5] 25))
          have hti := (A2.pend hQl hTW (ht5.mono (Q := fun g => ((P g ∨ P' g) ∧ g < w.heap.size) ∨ w2.drew.heap.size ≤ g) fun g hg => by rcases hg with (hg | hg) | hg <;> first | exact .inl ⟨.inl hg.1, hg.2⟩ | exact .inl ⟨.inr hg.1, hg.2⟩ | exact .inr hg)).below (bel1 w3 (.cells #[Value.int .i64 k5, .slice An5 n5.length cn5, .slice A5 p5.length c5] 25))
          have oc2 : ∀ u ∈ (#[Value.int .i64 k5, .slice An5 n5.length cn5, .slice A5 p5.length c5] : Array Value).toList, u.oneCell' = true := by simp [Value.oneCell']
          have hsz3 : W1.heap.size ≤ (w3.alloc (.cells #[Value.int .i64 k5, .slice An5 n5.length cn5, .slice A5 p5.length c5] 25)).heap.size := Q3a.fr.size
          refine wpG_ready (rs := [13]) (by kernel_rfl) (by simp) ?_
          refine RG.cons rfl rfl (fun K hK => ?_) RG.nil
          go_simp
          refine hK.out _ _ ⟨Q3a.fr, fun _ => (T3.alloc _).cell 2, fun _ => trivial⟩ (fun hS => ?_)
          clear hK K
          try simp only [Act.put, List.setIfInBounds_toArray, List.set_cons_zero, List.set_cons_succ]
          refine wpG_ready (rs := [14]) (by kernel_rfl) (by simp) ?_
          refine RG.cons rfl rfl (fun K hK => ?_) RG.nil
          refine wp_append_lies (w3.alloc (.cells #[Value.int .i64 k5, .slice An5 n5.length cn5, .slice A5 p5.length c5] 25)) (.tmp 134) (.tmp 146) 23 (by rfl) W1.heap.size 25 iT _ 3 56 Tryz.underlying23 hiT hzT hsT hbT rfl (by omega) x2 tl.length cs (by rfl) Q3a.o2 ⟨w3.heap.size, 0, none⟩ 1 1 (#[Value.int .i64 k5, .slice An5 n5.length cn5, .slice A5 p5.length c5] : Array Value).toList (by rfl) (by rfl) (World.news_of_block (RowB.new w3 25 #[Value.int .i64 k5, .slice An5 n5.length cn5, .slice A5 p5.length c5])) oc2 (by omega) bb3 bb4 hsz3 _ rfl ?_
          intro gb capb w5 hown2 hgrow2 hat2 hlt2'
          have Q5 := Q3a.app2 hti hown2 hgrow2 rfl hat2
          have T5r := (T3.alloc (.cells #[Value.int .i64 k5, .slice An5 n5.length cn5, .slice A5 p5.length c5] 25)).grown hgrow2 eT2
          clear hown2 hgrow2 hat2
          refine hK.out _ _ ⟨Q5.fr, fun h => absurd (h : true = false) (by decide), fun _ => trivial⟩ (fun hS => ?_)
          clear hK K
          try simp only [Act.put, List.setIfInBounds_toArray, List.set_cons_zero, List.set_cons_succ]
          refine wpG_take0 (i := 15) (v := ?v32) rfl (by kernel_rfl) (by kernel_rfl) (by kernel_rfl) (by decide) (by decide) (fun _ _ _ h => h) hS (Or.inl ⟨by rfl, ?hy32⟩) ?rest32
          case hy32 => (intro w' hw; go_simp; try with_reducible rfl)
          replace hS := SG.set (i := 15) (by decide) (by decide) hS
          try simp only [Act.put, List.setIfInBounds_toArray, List.set_cons_zero, List.set_cons_succ]
          refine wpG_ready (rs := [16]) (by kernel_rfl) (by simp) ?_
          refine RG.cons rfl rfl (fun K hK => ?_) RG.nil
          have zt1 := T5r.cell
          have zt1t := T5r.thaw
          go_simp
          clear zt1 zt1t
          refine hK.out _ _ ⟨(Q5.put hTW 2 _).fr, fun h => absurd (h : true = false) (by decide), fun _ => trivial⟩ (fun hS => ?_)
          clear hK K
          try simp only [Act.put, List.setIfInBounds_toArray, List.set_cons_zero, List.set_cons_succ]
          refine wpG_done (by kernel_rfl) ?_ _
          have hrc := Q5.put hTW 2 (.slice (some ⟨gb, 0, none⟩) (tl.length + 1) capb)
          have hrow : RowB (w5.setCell ⟨T, 2, none⟩ (.slice (some ⟨gb, 0, none⟩) (tl.length + 1) capb)) T 25 #[.int .i64 4, .slice none 0 0, .slice (some ⟨gb, 0, none⟩) (tl.length + 1) capb] := T5r.put 2 _
          obtain ⟨w6, hw6⟩ : ∃ w6, w6 = w5.setCell ⟨T, 2, none⟩ (.slice (some ⟨gb, 0, none⟩) (tl.length + 1) capb) := ⟨_, rfl⟩
          rw [← hw6] at hrc hrow ⊢
          obtain ⟨An', cn', A', c', e1, e2, hti2⟩ := hrc.out (fun s hs => by cases hs) hTW 4
          have Z3 := Lib.hid (hrc.fr.row YR.out (by have := HTSV.out; omega) (by have := HTSV.out; omega))
          have HBF : Hid (Below w.heap.size w w6) := HBV.out.trans (hrc.fr.below (by omega) (by have := HTSV.out; omega))
          have z3 := Z3.out.cell
          have z3t := Z3.out.thaw
          have zT := hrow.cell
          have hltT : T < w6.heap.size := hrow.lt
          have HCE : Hid (com (.mk 4 na pa) (.mk 4 nb pb) = .mk 4 [] (tl ++ [.mk k5 n5 p5])) := by unfold Hid; rw [HCF.out, ← HT5.out]; rfl
          injection e1 with e11 e12 e13
          injection e2 with e21 e22 e23
          subst e11 e13 e21 e23
          clear e12 e22
          have HTI := Lib.hid hti2
          clear hti2 hrc hrow Q5 T5r hw6 A2 RT2 Q3 T3 Q3a hti hS h3 ht5 D2 bb3 bb4 eT2 oc2 hsz3 C8 HQ2 HT2
          go_wp2_with fail
          refine bodyPost_ret (v := .agg #[.int .i64 4, .slice none 0 0, .slice (some ⟨gb, 0, none⟩) (tl.length + 1) capb]) ?_ rfl ⟨below_put3 HBF.out (by omega) _ _ _, none, 0, some ⟨gb, 0, none⟩, capb, by rw [HCE.out]; simp [tv], ?_⟩
          · simp [results, Tryz.results35, go_sem, z3]
            try first | rfl | exact ⟨rfl, rfl⟩
          · rw [HCE.out]
            refine HTI.out.put3 (fun g hg => ?_) _ _ _
            rcases hg.1 with h | h
            · exact ⟨.inl h.1, by omega⟩
            · exact ⟨.inr (by have := HTSV.out; omega), by have := HTSV.out; omega⟩
theorem rjoin_any : ∀ a : Ty, a.right = true → a.cnt ≤ 1000001 → ∀ b : Ty, b.right = true → b.cnt ≤ 1000001 → ∀ (w : World) (P P' : Nat → Prop) (An : Option Addr) (cn : Nat) (A : Option Addr) (c : Nat) (Bn : Option Addr) (dn : Nat) (B : Option Addr) (d : Nat), TI w P a An cn A c → TI w P' b Bn dn B d →
    Calls Tryz.prog 35 #[tv a An cn A c, tv b Bn dn B d] w (MadeQ (fun g => (P g ∨ P' g) ∨ w.heap.size ≤ g) (com a b) w) := by
  refine Ty.ind fun ka na pa ih ra ca b rb cb w P P' An cn A c Bn dn B d hA hB => ?_
  obtain ⟨kb, nb, pb⟩ := b
  have IH : RJIH pa pb := fun x hx y hy w P P' An cn A c Bn dn B d h h' =>
    ih x hx (right_part (t := .mk ka na pa) ra hx) (by have := cnt_part (t := .mk ka na pa) hx; omega) y (right_part (t := .mk kb nb pb) rb hy) (by have := cnt_part (t := .mk kb nb pb) hy; omega) w P P' An cn A c Bn dn B d h h'
  cases hs : (Ty.mk ka na pa).same (.mk kb nb pb) with
  | true => exact rjoin_same ka kb na nb pa pb ra rb ca cb w P P' An cn A c Bn dn B d hA hB hs
  | false =>
    by_cases h3 : ka = 3 ∧ kb = 3
    · obtain ⟨rfl, rfl⟩ := h3
      exact rjoin_rec na nb pa pb ra rb ca cb IH w P P' An cn A c Bn dn B d hA hB hs
    · by_cases h4 : ka = 4 ∧ kb = 4 ∧ pa.length = pb.length
      · obtain ⟨rfl, rfl, hl⟩ := h4
        exact rjoin_fn na nb pa pb ra rb ca cb IH hl w P P' An cn A c Bn dn B d hA hB hs
      · exact rjoin_else ka kb na nb pa pb ra rb ca cb w P P' An cn A c Bn dn B d hA hB hs h3 h4
end Tm
end Go.Proofs.YtifkjngclkklfaaGreatDoor
