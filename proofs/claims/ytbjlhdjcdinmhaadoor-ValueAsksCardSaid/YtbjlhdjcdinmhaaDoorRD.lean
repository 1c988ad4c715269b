/- Contracts: whether a value may be, by the document: the whole. -/
import Derived.Test.YtbjlhdjcdinmhaaDoorRC
import Derived.Test.YtbjlhdjcdinmhaaDoorRA
import Derived.Lib.QuietBelow
namespace Go.Proofs.YtbjlhdjcdinmhaaDoor
open Go.RowKit Go.Op
namespace Vm
theorem own_uB {kd kn : Int} {ks : ByteArray} {ns : List ByteArray} {n : Nat} (h : tB kd kn ks.size = false) : ownB ⟨kd, kn, ks⟩ ns n = (!(uB kd ns.length n) && riseB ns) := by
  unfold tB at h
  simp only [Bool.or_eq_false_iff, Bool.and_eq_false_iff, decide_eq_false_iff_not] at h
  obtain ⟨⟨⟨⟨h1, h2⟩, h3⟩, h4⟩, h5⟩ := h
  have hs : kd ≠ 2 → ks = ⟨#[]⟩ := fun e => by
    rcases h3 with h | h
    · exact absurd e h
    · exact ByteArray.size_eq_zero_iff.1 (by omega)
  have hk : kd = 1 ∨ kd = 2 ∨ kd = 3 ∨ kd = 4 := by omega
  rcases hk with rfl | rfl | rfl | rfl
  · obtain rfl := hs (by decide)
    cases ns <;> simp [ownB, uB, riseB]
    omega
  · have hn : kn = 0 := by
      rcases h4 with h | h
      · exact absurd (.inl rfl) h
      · omega
    subst hn
    cases ns <;> simp [ownB, uB, riseB]
    omega
  · have hn : kn = 0 := by
      rcases h4 with h | h
      · exact absurd (.inr rfl) h
      · omega
    subst hn
    obtain rfl := hs (by decide)
    simp [ownB, uB]
  · have hn : 0 ≤ kn := by
      rcases h5 with h | h
      · exact absurd rfl h
      · omega
    obtain rfl := hs (by decide)
    cases ns <;> simp [ownB, uB, riseB, hn]
    omega
set_option maxHeartbeats 16000000 in
set_option maxRecDepth 100000 in
theorem rright_step (ps : List Vl) (hl : ps.length ≤ 1000001)
    (IH : ∀ p ∈ ps, ∀ (w : World) (P : Nat → Prop) (An : Option Addr) (cn : Nat) (A : Option Addr) (c : Nat), VI w P p An cn A c → Calls Tryd.prog 14 #[vv p An cn A c] w fun e w' => e = .returned (.bool p.right) ∧ Below w.heap.size w w')
    (w : World) (P : Nat → Prop) (kd kn : Int) (ks : ByteArray) (ns : List ByteArray) (hn : ns.length ≤ 1000001) (An : Option Addr) (cn : Nat) (A : Option Addr) (c : Nat) (hN : NV w P ns An cn) (h : VV w P ps A c) (ht : tB kd kn ks.size = false) (r : Bool) (hr : r = (ownB ⟨kd, kn, ks⟩ ns ps.length && ps.all Vl.right)) :
    Calls Tryd.prog 14 #[.agg (varr ⟨kd, kn, ks⟩ An ns.length cn A ps.length c)] w fun e w' => e = .returned (.bool r) ∧ Below w.heap.size w w' := by
  rw [own_uB ht] at hr
  obtain ⟨m, hm⟩ : ∃ m, m = ns.length := ⟨_, rfl⟩
  obtain ⟨n, hnn⟩ : ∃ n, n = ps.length := ⟨_, rfl⟩
  rw [← hm, ← hnn] at hr ⊢
  have hm1 : m ≤ 1000001 := by omega
  have hn1 : n ≤ 1000001 := by omega
  have b0 := bel1 w (.cells (varr ⟨kd, kn, ks⟩ An m cn A n c) 25)
  have B0 := Lib.hid b0
  have R0 := Lib.hid (RowB.new w 25 (varr ⟨kd, kn, ks⟩ An m cn A n c))
  have rc := R0.out.cell
  have HH := Lib.hid ht
  have HR0 := Lib.hid hr
  have HI := Lib.hid IH
  have HM1 := Lib.hid hm
  have HN1 := Lib.hid hnn
  have HNA := Lib.hid (hN.below b0)
  have HVA := Lib.hid (h.below b0)
  clear h ht hr IH hN hm hnn hl hn b0
  go_enter Tryd.func14, Tryd.ntmps14
  go_upto_region 1 with fail
  obtain ⟨W, hW⟩ : ∃ W, W = w.alloc (.cells (varr ⟨kd, kn, ks⟩ An m cn A n c) 25) := ⟨_, rfl⟩
  rw [← hW] at B0 R0 rc HNA HVA ⊢
  clear hW
  go_cut [47] from 4 to 46 (fun s47 wx => s47 = .bool (tB kd kn ks.size) ∧ wx = W)
  case first =>
    clear R0 B0 HH HR0 HI HM1 HN1 HNA HVA
    by_cases h1 : kd < 1
    · have HF : Hid (tB kd kn ks.size = true) := by simp [Hid, tB, h1]
      go_wp2_with fail
      go_meet
      exact ⟨by rw [HF.out], rfl⟩
    by_cases h2 : kd > 4
    · have HF : Hid (tB kd kn ks.size = true) := by simp [Hid, tB, h2]
      go_wp2_with fail
      go_meet
      exact ⟨by rw [HF.out], rfl⟩
    have h5 : kd = 1 ∨ kd = 2 ∨ kd = 3 ∨ kd = 4 := by omega
    clear h1 h2
    rcases h5 with rfl | rfl | rfl | rfl
    · by_cases hz : ks = ByteArray.empty
      case neg =>
        have hz2 : (ks.size : Int) > 0 := size_pos hz
        have hz3 : ks.size ≠ 0 := by omega
        have HF : Hid (tB 1 kn ks.size = true) := by simp [Hid, tB, hz3]
        clear hz3
        go_wp2_with fail
        go_meet
        exact ⟨by rw [HF.out], rfl⟩
      subst hz
      have HF : Hid (tB 1 kn ByteArray.empty.size = false) := by simp [Hid, tB]; try omega
      go_wp2_with fail
      go_meet
      exact ⟨by rw [HF.out], rfl⟩
    · by_cases hk : kn = 0
      case neg =>
        have hk1 : (kn != 0) = true := by rw [bne_iff_ne]; exact hk
        have HF : Hid (tB 2 kn ks.size = true) := by simp [Hid, tB, hk]
        clear hk
        go_wp2_with fail
        go_meet
        exact ⟨by rw [HF.out], rfl⟩
      subst hk
      have HF : Hid (tB 2 0 ks.size = false) := by simp [Hid, tB]; try omega
      go_wp2_with fail
      go_meet
      exact ⟨by rw [HF.out], rfl⟩
    · by_cases hz : ks = ByteArray.empty
      case neg =>
        have hz2 : (ks.size : Int) > 0 := size_pos hz
        have hz3 : ks.size ≠ 0 := by omega
        have HF : Hid (tB 3 kn ks.size = true) := by simp [Hid, tB, hz3]
        clear hz3
        go_wp2_with fail
        go_meet
        exact ⟨by rw [HF.out], rfl⟩
      subst hz
      by_cases hk : kn = 0
      case neg =>
        have hk1 : (kn != 0) = true := by rw [bne_iff_ne]; exact hk
        have HF : Hid (tB 3 kn ByteArray.empty.size = true) := by simp [Hid, tB, hk]
        clear hk
        go_wp2_with fail
        go_meet
        exact ⟨by rw [HF.out], rfl⟩
      subst hk
      have HF : Hid (tB 3 0 ByteArray.empty.size = false) := by simp [Hid, tB]; try omega
      go_wp2_with fail
      go_meet
      exact ⟨by rw [HF.out], rfl⟩
    · by_cases hz : ks = ByteArray.empty
      case neg =>
        have hz2 : (ks.size : Int) > 0 := size_pos hz
        have hz3 : ks.size ≠ 0 := by omega
        have HF : Hid (tB 4 kn ks.size = true) := by simp [Hid, tB, hz3]
        clear hz3
        go_wp2_with fail
        go_meet
        exact ⟨by rw [HF.out], rfl⟩
      subst hz
      by_cases hk : kn < 0
      case pos =>
        have HF : Hid (tB 4 kn ByteArray.empty.size = true) := by simp [Hid, tB, hk]
        go_wp2_with fail
        go_meet
        exact ⟨by rw [HF.out], rfl⟩
      have HF : Hid (tB 4 kn ByteArray.empty.size = false) := by simp [Hid, tB]; omega
      go_wp2_with fail
      go_meet
      exact ⟨by rw [HF.out], rfl⟩
  case rest =>
  obtain ⟨rfl, hwc⟩ := hcut
  subst hwc
  rw [HH.out]
  clear rc
  have rc := R0.out.cell
  go_upto_region 3 with fail
  go_cut [69] from 48 to 68 (fun s69 wx => s69 = .bool (uB kd m n) ∧ wx = wc)
  case first =>
    clear R0 B0 HH HR0 HI HM1 HN1 HNA HVA
    by_cases h3 : kd = 3
    · subst h3
      have HF : Hid (uB 3 m n = ((m : Int) != (n : Int))) := by
        unfold Hid uB
        rw [Bool.eq_iff_iff]
        simp
        omega
      cases hx : ((m : Int) != (n : Int))
      · rw [hx] at HF
        go_wp2_with fail
        go_meet
        exact ⟨by rw [HF.out], rfl⟩
      · rw [hx] at HF
        go_wp2_with fail
        go_meet
        exact ⟨by rw [HF.out], rfl⟩
    · have e3 : (kd != 3) = true := by rw [bne_iff_ne]; exact h3
      have q1 : IntKind.i64.wrap ((m : Int) + (n : Int)) = (m : Int) + (n : Int) := by rw [IntKind.wrap_i64]; omega
      by_cases hz : (m : Int) + (n : Int) > 0
      · have HF : Hid (uB kd m n = true) := by
          unfold Hid uB
          rw [Bool.or_eq_true, Bool.and_eq_true]
          exact .inl ⟨decide_eq_true h3, decide_eq_true (by omega)⟩
        clear h3
        go_wp2_with fail
        go_meet
        exact ⟨by rw [HF.out], rfl⟩
      · obtain ⟨rfl, rfl⟩ : m = 0 ∧ n = 0 := by omega
        have HF : Hid (uB kd 0 0 = false) := by simp [Hid, uB]
        clear h3 hz q1
        have q1 : IntKind.i64.wrap (0 : Int) = 0 := by decide
        go_wp2_with fail
        go_meet
        exact ⟨by rw [HF.out], rfl⟩
  case rest =>
  obtain ⟨rfl, hwd⟩ := hcut
  subst hwd
  obtain ⟨u, hu⟩ : ∃ u, u = uB kd m n := ⟨_, rfl⟩
  have HU := Lib.hid hu
  rw [← hu] at HR0 ⊢
  clear hu rc
  cases u
  case true =>
    have HF : Hid (r = false) := by unfold Hid; rw [HR0.out]; rfl
    go_wp2_with fail
    (first | go_ret | go_ret2)
    exact ⟨by rw [HF.out]; rfl, B0.out⟩
  case false =>
  have hmn : n = m := by
    have h := HU.out.symm
    unfold uB at h
    rw [Bool.or_eq_false_iff, decide_eq_false_iff_not] at h
    omega
  have HR : Hid (r = (riseB ns && ps.all Vl.right)) := by unfold Hid; rw [HR0.out]; rfl
  subst hmn
  clear HU HR0 hn1 HH
  go_wp2_with fail
  obtain ⟨W, hW⟩ : ∃ W, W = wc := ⟨_, rfl⟩
  subst hW
  go_loopg [3] (n + 1) (fun kx s3 wr => ∃ i : Nat, s3 = .int .i64 i ∧ n - i ≤ kx ∧ i ≤ n ∧ Hid (riseB (ns.take i) = true ∧ (ps.take i).all Vl.right = true) ∧ Hid (Below W.heap.size W wr))
  case atStart => exact ⟨0, rfl, by omega, by omega, by simp [Hid, riseB], Below.refl _ _⟩
  case round =>
    obtain ⟨i, rfl, hkx, hin, HQ, HB⟩ := hrel
    have RX := Lib.hid (R0.out.below HB.out R0.out.lt)
    have rx := RX.out.cell
    by_cases hi : i < n
    · have hil : (i : Int) < (n : Int) := by omega
      obtain ⟨s, e⟩ := get_lt (l := ns) (i := i) (by rw [← HM1.out]; exact hi)
      obtain ⟨p, e'⟩ := get_lt (l := ps) (i := i) (by rw [← HN1.out]; exact hi)
      obtain ⟨g, o, hA, _, hg, y0', _⟩ := (HNA.out.below HB.out).nth e
      obtain ⟨g', o', An2, cn2, A2, c2, hA', hP', hg', hti, a0, a1, a2, a3, a4⟩ := (HVA.out.below HB.out).nth e'
      have HM := Lib.hid (List.mem_of_getElem? e')
      have CC : Hid (∀ w', Below wr.heap.size wr w' → Calls Tryd.prog 14 #[vv p An2 cn2 A2 c2] w' fun e w'' => e = .returned (.bool p.right) ∧ Below w'.heap.size w' w'') := fun w' hb => HI.out p HM.out w' P An2 cn2 A2 c2 (hti.below hb)
      have zra := fun d os => cell_regrown (RX.out.cell 3) d os
      have zrb := fun d os => cell_regrown (RX.out.cell 4) d os
      have z0 := fun d os => cell_regrown a0 d os
      have z1 := fun d os => cell_regrown a1 d os
      have z2 := fun d os => cell_regrown a2 d os
      have z3 := fun d os => cell_regrown a3 d os
      have z4 := fun d os => cell_regrown a4 d os
      have y0 := fun d os => cell_regrown y0' d os
      obtain ⟨b, hb⟩ : ∃ b, b = p.right := ⟨_, rfl⟩
      have HBB := Lib.hid hb
      rw [← hb] at CC
      have HE := Lib.hid e
      have HE' := Lib.hid e'
      obtain ⟨j, hj⟩ : ∃ j, j = i + 1 := ⟨_, rfl⟩
      have hbd : Hid (∀ d os, Below wr.heap.size wr (Go.Sort.grow (redrawn wr d) os)) := fun d os => below_regrown wr d os
      have HA' := Lib.hid hA
      subst hA'
      obtain ⟨kp, np, pp⟩ := p
      simp only [hd_mk, names_mk, parts_mk] at z0 z1 z2 z3 z4 CC
      clear e e' hti hb a0 a1 a2 a3 a4 hP' hg hg' y0'
      cases i with
      | zero =>
        have HQ1 : Hid (riseB (ns.take j) = true) := by
          unfold Hid
          rw [hj]
          cases ns with
          | nil => simp [riseB]
          | cons a l => simp [riseB]
        simp only [Nat.zero_mul, Nat.add_zero] at z0 z1 z2 z3 z4 y0
        subst hA
        cases b
        · have HF : Hid (r = false) := by unfold Hid; rw [HR.out, all_no HM.out HBB.out.symm, Bool.and_false]
          go_wp2_with fail
          refine wp_region_quiet_below (by kernel_rfl) (by kernel_rfl) ?_
          repeat (go_big_quiet_step (first
            | (go_at_call 14; exact Calls.regrown_of (CC.out _ (hbd.out _ _)))))
          refine wpQuiet_nil ?_
          intro _ hw'
          obtain ⟨⟨dq, osq⟩, hw''⟩ := hw'
          subst hw''
          have HX := Lib.hid (HB.out.trans ((below_regrown wr dq osq).mono HB.out.size))
          generalize Go.Sort.grow (redrawn wr dq) osq = WX at *
          clear CC hbd zra zrb z0 z1 z2 z3 z4 y0
          go_wp2_with fail
          (first | go_ret | go_ret2)
          exact ⟨by rw [HF.out]; rfl, B0.out.trans (HX.out.mono B0.out.size)⟩
        · have HQ2 : Hid (riseB (ns.take j) = true ∧ (ps.take j).all Vl.right = true) := ⟨HQ1.out, by rw [hj]; exact all_take HE'.out HQ.out.2 HBB.out.symm⟩
          go_wp2_with fail
          refine wp_region_quiet_below (by kernel_rfl) (by kernel_rfl) ?_
          repeat (go_big_quiet_step (first
            | (go_at_call 14; exact Calls.regrown_of (CC.out _ (hbd.out _ _)))))
          refine wpQuiet_nil ?_
          intro _ hw'
          obtain ⟨⟨dq, osq⟩, hw''⟩ := hw'
          subst hw''
          have HX := Lib.hid (HB.out.trans ((below_regrown wr dq osq).mono HB.out.size))
          generalize Go.Sort.grow (redrawn wr dq) osq = WX at *
          clear CC hbd zra zrb z0 z1 z2 z3 z4 y0
          go_wp2_with fail
          go_roundg (n - j)
          case measure => omega
          case rel => exact ⟨j, by rw [hj]; go_num, by omega, by omega, HQ2.out, HX.out⟩
      | succ i =>
        obtain ⟨pv, e2⟩ := get_lt (l := ns) (i := i) (by rw [← HM1.out]; omega)
        obtain ⟨g2, o2, hA2, _, hg2, x0', _⟩ := (HNA.out.below HB.out).nth e2
        rw [hA] at hA2
        injection hA2 with hA2
        injection hA2 with hh1 hh2
        subst hh1 hh2
        have x0 := fun d os => cell_regrown x0' d os
        obtain ⟨x, hx⟩ : ∃ x, x = lt pv s := ⟨_, rfl⟩
        have hx2 : bytesLess pv.toList s.toList = x := hx.symm
        have hx3 : (bytesLess s.toList pv.toList || s.toList == pv.toList) = !x := by rw [less_not, hx2]
        have HXX := Lib.hid hx
        have HE2 := Lib.hid e2
        obtain ⟨v, hv⟩ : ∃ v : Nat, v = i + 1 := ⟨_, rfl⟩
        have h0i : 0 < v := by omega
        have hgt : decide (0 < v) = true := by simpa using h0i
        have q1 : IntKind.i64.wrap ((v : Int) - 1) = (i : Int) := by rw [IntKind.wrap_i64]; omega
        have q2 : (v : Int) > 0 := by omega
        have t2 : (v : Int) - 1 = (i : Int) := by omega
        have r2 : IntKind.i64.wrap (i : Int) = (i : Int) := by rw [IntKind.wrap_i64]; omega
        have q3 : (i : Int) < (n : Int) := by omega
        have q4 : (0 : Int) ≤ (i : Int) := by omega
        have HV := Lib.hid hv
        have HTK : Hid (riseB (ns.take j) = (riseB (ns.take v) && x)) := by
          unfold Hid
          rw [hj, rise_take1 HE2.out HE.out, ← HXX.out, ← hv]
        have HFX : Hid (x = false → riseB ns = false) := fun hxf => rise_of_take (i := i + 1 + 1) (by rw [rise_take1 HE2.out HE.out, ← HXX.out, hxf, Bool.and_false])
        rw [← hv] at hi hil z0 z1 z2 z3 z4 y0 hkx hin hj HQ HE' ⊢
        clear e2 x0' hv hx
        subst hA
        cases x
        · have hx4 : (bytesLess s.toList pv.toList || s.toList == pv.toList) = true := hx3
          clear hx3
          have HF : Hid (r = false) := by unfold Hid; rw [HR.out, HFX.out rfl, Bool.false_and]
          go_wp2_with fail
          refine wp_region_quiet_below (by kernel_rfl) (by kernel_rfl) ?_
          repeat (go_big_quiet_step (first
            | (go_at_call 14; exact Calls.regrown_of (CC.out _ (hbd.out _ _)))))
          refine wpQuiet_nil ?_
          intro _ hw'
          obtain ⟨⟨dq, osq⟩, hw''⟩ := hw'
          subst hw''
          have HX := Lib.hid (HB.out.trans ((below_regrown wr dq osq).mono HB.out.size))
          generalize Go.Sort.grow (redrawn wr dq) osq = WX at *
          clear CC hbd zra zrb z0 z1 z2 z3 z4 y0 x0
          go_wp2_with fail
          (first | go_ret | go_ret2)
          exact ⟨by rw [HF.out]; rfl, B0.out.trans (HX.out.mono B0.out.size)⟩
        · have hx4 : (bytesLess s.toList pv.toList || s.toList == pv.toList) = false := hx3
          clear hx3
          have HQ1 : Hid (riseB (ns.take j) = true) := by unfold Hid; rw [HTK.out, HQ.out.1]; rfl
          cases b
          · have HF : Hid (r = false) := by unfold Hid; rw [HR.out, all_no HM.out HBB.out.symm, Bool.and_false]
            go_wp2_with fail
            refine wp_region_quiet_below (by kernel_rfl) (by kernel_rfl) ?_
            repeat (go_big_quiet_step (first
              | (go_at_call 14; exact Calls.regrown_of (CC.out _ (hbd.out _ _)))))
            refine wpQuiet_nil ?_
            intro _ hw'
            obtain ⟨⟨dq, osq⟩, hw''⟩ := hw'
            subst hw''
            have HX := Lib.hid (HB.out.trans ((below_regrown wr dq osq).mono HB.out.size))
            generalize Go.Sort.grow (redrawn wr dq) osq = WX at *
            clear CC hbd zra zrb z0 z1 z2 z3 z4 y0 x0
            go_wp2_with fail
            (first | go_ret | go_ret2)
            exact ⟨by rw [HF.out]; rfl, B0.out.trans (HX.out.mono B0.out.size)⟩
          · have HQ2 : Hid (riseB (ns.take j) = true ∧ (ps.take j).all Vl.right = true) := ⟨HQ1.out, by rw [hj]; exact all_take HE'.out HQ.out.2 HBB.out.symm⟩
            go_wp2_with fail
            refine wp_region_quiet_below (by kernel_rfl) (by kernel_rfl) ?_
            repeat (go_big_quiet_step (first
              | (go_at_call 14; exact Calls.regrown_of (CC.out _ (hbd.out _ _)))))
            refine wpQuiet_nil ?_
            intro _ hw'
            obtain ⟨⟨dq, osq⟩, hw''⟩ := hw'
            subst hw''
            have HX := Lib.hid (HB.out.trans ((below_regrown wr dq osq).mono HB.out.size))
            generalize Go.Sort.grow (redrawn wr dq) osq = WX at *
            clear CC hbd zra zrb z0 z1 z2 z3 z4 y0 x0
            go_wp2_with fail
            go_roundg (n - j)
            case measure => omega
            case rel => exact ⟨j, by rw [hj]; go_num, by omega, by omega, HQ2.out, HX.out⟩
    · have hil : ¬ (i : Int) < (n : Int) := by omega
      obtain rfl : i = n := by omega
      have HF : Hid (r = true) := by
        have h := HQ.out
        rw [List.take_of_length_le (by rw [← HM1.out]; exact Nat.le_refl _), List.take_of_length_le (by rw [← HN1.out]; exact Nat.le_refl _)] at h
        unfold Hid
        rw [HR.out, h.1, h.2]
        rfl
      clear hi
      go_wp2_with fail
      (first | go_ret | go_ret2)
      exact ⟨by rw [HF.out]; rfl, B0.out.trans (HB.out.mono B0.out.size)⟩
theorem rright_any : ∀ t : Vl, t.cnt ≤ 1000001 → ∀ (w : World) (P : Nat → Prop) (An : Option Addr) (cn : Nat) (A : Option Addr) (c : Nat), VI w P t An cn A c → Calls Tryd.prog 14 #[vv t An cn A c] w fun e w' => e = .returned (.bool t.right) ∧ Below w.heap.size w w' := by
  refine Vl.ind fun k ns ps ih hc w P An cn A c h => ?_
  rw [Vl.cnt] at hc
  have e1 := cntL_len ps
  obtain ⟨kd, kn, ks⟩ := k
  cases ht : tB kd kn ks.size
  · exact rright_step ps (by omega) (fun p hp => ih p hp (by have := cnt_mem hp; omega)) w P kd kn ks ns (by omega) An cn A c (VI_iff.1 h).1 (VI_iff.1 h).2 ht _ (by rw [Vl.right, rightL_all])
  · have hf : (Vl.mk ⟨kd, kn, ks⟩ ns ps).right = false := by
      cases hr : (Vl.mk ⟨kd, kn, ks⟩ ns ps).right
      · rfl
      · exfalso
        have hh : tB kd kn ks.size = false := by
          rcases right_cases hr with ⟨h1, h2, _⟩ | ⟨h1, h2, _⟩ | ⟨h1, h2, h3, _⟩ | ⟨h1, h2, h3, _⟩
          · simp only at h1 h2; subst h1 h2; simp [tB, ByteArray.size]
          · simp only at h1 h2; subst h1 h2; simp [tB]
          · simp only at h1 h2 h3; subst h1 h3; simp [tB, ByteArray.size]; omega
          · simp only at h1 h2 h3; subst h1 h2 h3; simp [tB, ByteArray.size]
        rw [hh] at ht
        cases ht
    rw [hf]
    exact rright_a kd kn ks w An ns.length cn A ps.length c (by omega) (by omega) ht
end Vm
end Go.Proofs.YtbjlhdjcdinmhaaDoor
