/- The law RelateJoins, walked. -/
import Derived.Test.YtifkjngclkklfaaGreatDoorRelateTopsWalk
import Derived.Test.YtifkjngclkklfaaGreatDoorMHi
import Derived.Test.YtifkjngclkklfaaGreatDoorMHj
namespace Go.Proofs.YtifkjngclkklfaaGreatDoor
open Go.RowKit Go.Op
namespace Tm
set_option maxHeartbeats 16000000 in
set_option maxRecDepth 100000 in
theorem rjoins_walk (w : World) (t0 : Ty) (P0 : Nat → Prop) (N0 : Option Addr) (n0 : Nat) (V0 : Option Addr) (v0 : Nat) (h0 : TI w P0 t0 N0 n0 V0 v0) (t1 : Ty) (P1 : Nat → Prop) (N1 : Option Addr) (n1 : Nat) (V1 : Option Addr) (v1 : Nat) (h1 : TI w P1 t1 N1 n1 V1 v1) (l : List Ty) (P2 : Nat → Prop) (L : Option Addr) (lc : Nat) (h2 : TV w P2 l L lc) (hT : Tabs w) (hE : Errs w) :
    Calls Tryz.prog 8 #[tv t0 N0 n0 V0 v0, tv t1 N1 n1 V1 v1, .slice L l.length lc] w fun e w' => e = .returned (.bool true) ∧ Below w.heap.size w w' := by
  obtain ⟨n, hn⟩ : ∃ n, n = l.length := ⟨_, rfl⟩
  rw [← hn]
  have HN := Lib.hid hn
  have HL := Lib.hid h2
  clear hn h2
  have d0 := bel1 w (.cells (tcc t0 N0 n0 V0 v0) 25)
  have d1 := bel1 (w.alloc (.cells (tcc t0 N0 n0 V0 v0) 25)) (.cells (tcc t1 N1 n1 V1 v1) 25)
  have e1 := d0.trans (d1.mono d0.size)
  have R0 : Hid (RowB ((w.alloc (.cells (tcc t0 N0 n0 V0 v0) 25)).alloc (.cells (tcc t1 N1 n1 V1 v1) 25)) (w.heap.size) 25 (tcc t0 N0 n0 V0 v0)) := by
    have := RowB.new w 25 (tcc t0 N0 n0 V0 v0)
    have h2 : w.heap.size = w.heap.size := by simp
    rw [h2] at this
    exact (this.alloc (.cells (tcc t1 N1 n1 V1 v1) 25))
  have R1 : Hid (RowB ((w.alloc (.cells (tcc t0 N0 n0 V0 v0) 25)).alloc (.cells (tcc t1 N1 n1 V1 v1) 25)) (w.heap.size + 1) 25 (tcc t1 N1 n1 V1 v1)) := by
    have := RowB.new (w.alloc (.cells (tcc t0 N0 n0 V0 v0) 25)) 25 (tcc t1 N1 n1 V1 v1)
    have h2 : (w.alloc (.cells (tcc t0 N0 n0 V0 v0) 25)).heap.size = w.heap.size + 1 := by simp
    rw [h2] at this
    exact this
  have I0 := Lib.hid (h0.below e1)
  have I1 := Lib.hid (h1.below e1)
  have HB0 := Lib.hid e1
  have HT := Lib.hid (Tabs.step hT e1)
  have HE := Lib.hid (hE.below e1)
  obtain ⟨W0, hW0⟩ : ∃ W0, W0 = ((w.alloc (.cells (tcc t0 N0 n0 V0 v0) 25)).alloc (.cells (tcc t1 N1 n1 V1 v1) 25)) := ⟨_, rfl⟩
  have r0 := R0.out.cell
  have r1 := R1.out.cell
  rw [← hW0] at I0 I1 HB0 HT HE R0 R1
  have b3 : Hid (Below W0.heap.size W0 (W0.alloc (.cells #[Value.int .i64 t0.kind, .slice N0 t0.names.length n0, .slice V0 t0.parts.length v0, Value.int .i64 t1.kind, .slice N1 t1.names.length n1, .slice V1 t1.parts.length v1] 25))) := bel1 W0 _
  have HV : Hid (TV (W0.alloc (.cells #[Value.int .i64 t0.kind, .slice N0 t0.names.length n0, .slice V0 t0.parts.length v0, Value.int .i64 t1.kind, .slice N1 t1.names.length n1, .slice V1 t1.parts.length v1] 25)) (fun g => (P0 g ∨ P1 g) ∨ g = W0.heap.size) [t0, t1] (some ⟨W0.heap.size, 0, none⟩) 2) := by
    refine TV.new (RowB.new W0 25 _) ?_ (.inr rfl)
    have k0 := (I0.out.below b3.out).mono (Q := (fun g => (P0 g ∨ P1 g) ∨ g = W0.heap.size)) fun g h => .inl (.inl h)
    have k1 := (I1.out.below b3.out).mono (Q := (fun g => (P0 g ∨ P1 g) ∨ g = W0.heap.size)) fun g h => .inl (.inr (h))
    exact TL.app _ _ (TL.one k0) (TL.one k1)
  have CF := Lib.hid (fits10_any _ [t0, t1] _ _ _ HV.out (by simp))
  clear d0 d1 e1 h0 h1 hT hE
  have hsz : W0.heap.size = w.heap.size + 1 + 1 := by rw [hW0]; simp
  have hcf := CF.out
  simp only [List.length_cons, List.length_nil, hsz] at hcf
  have CF2 := Lib.hid hcf
  obtain ⟨ft, hft⟩ : ∃ ft, ft = [t0, t1].all fitB := ⟨_, rfl⟩
  rw [← hft] at CF2
  have HFT := Lib.hid hft
  clear hcf CF hsz hft
  go_enter Tryz.func8, Tryz.ntmps8
  go_wp2_with fail
  rw [← hW0]
  refine CF2.out.mono ?_
  rintro e w1 ⟨rfl, hb1⟩
  have b4 := b3.out.trans (hb1.mono b3.out.size)
  have HB1 := Lib.hid (HB0.out.trans (b4.mono HB0.out.size))
  have HL1 := Lib.hid (HL.out.below HB1.out)
  have X0 := Lib.hid (R0.out.below b4 R0.out.lt)
  have J0 := Lib.hid (I0.out.below b4)
  have X1 := Lib.hid (R1.out.below b4 R1.out.lt)
  have J1 := Lib.hid (I1.out.below b4)
  have HT1 := Lib.hid (Tabs.step HT.out b4)
  have HE1 := Lib.hid (HE.out.below b4)
  have x0 := X0.out.cell
  have x1 := X1.out.cell
  clear hW0 b4 hb1 CF2 b3 HV HT HE HB0 I0 R0 r0 I1 R1 r1
  cases ft with
  | false =>
    have CA := Lib.hid (awake10_any w1 HT1.out HE1.out)
    go_wp2_with fail
    refine CA.out.mono ?_
    rintro e w2 ⟨rfl, hb2⟩
    have HB2 := Lib.hid (HB1.out.trans (hb2.mono HB1.out.size))
    clear hb2 CA
    go_wp2_with fail
    (first | go_ret | go_ret2)
    exact ⟨rfl, HB2.out⟩
  | true =>

  by_cases hn20 : n ≤ 20
  case neg =>
    have q1 : (n : Int) > 20 := by omega
    go_wp2_with fail
    have CA := Lib.hid (awake10_any _ (Tabs.step HT1.out (Below.refl _ w1)) (HE1.out.below (Below.refl _ w1)))
    go_wp2_with fail
    refine CA.out.mono ?_
    rintro e w9 ⟨rfl, hb9⟩
    have HB9 := Lib.hid (HB1.out.trans (hb9.mono HB1.out.size))
    clear hb9 CA
    go_wp2_with fail
    (first | go_ret | go_ret2)
    exact ⟨rfl, HB9.out⟩
  have q1 : ¬ (n : Int) > 20 := by omega
  have hfit := HFT.out.symm
  simp only [List.all_cons, List.all_nil, Bool.and_true, Bool.and_eq_true, fitB] at hfit
  obtain ⟨⟨l0, r0⟩, l1, r1⟩ := hfit
  have c0 := (light_cnt l0).1
  have c1 := (light_cnt l1).1
  have H01 : Hid (t0.right = true ∧ t1.right = true ∧ t0.cnt ≤ 1000001 ∧ t1.cnt ≤ 1000001) := ⟨r0, r1, by omega, by omega⟩
  have CF := fits10_any w1 l _ L lc HL1.out (by rw [← HN.out]; omega)
  rw [← HN.out] at CF
  obtain ⟨fl, hfl⟩ : ∃ b, b = l.all fitB := ⟨_, rfl⟩
  rw [← hfl] at CF
  have HFL := Lib.hid hfl
  have CFL := Lib.hid CF
  clear CF hfl l0 l1 r0 r1 c0 c1 HFT
  go_wp2_with fail
  refine CFL.out.mono ?_
  rintro e W ⟨rfl, hbW⟩
  have HXW := Lib.hid hbW
  have HBW := Lib.hid (HB1.out.trans (hbW.mono HB1.out.size))
  clear hbW CFL x0 x1
  cases fl with
  | false =>
    go_wp2_with fail
    have CA := Lib.hid (awake10_any _ (Tabs.step HT1.out HXW.out) (HE1.out.below HXW.out))
    go_wp2_with fail
    refine CA.out.mono ?_
    rintro e w9 ⟨rfl, hb9⟩
    have HB9 := Lib.hid (HBW.out.trans (hb9.mono HBW.out.size))
    clear hb9 CA
    go_wp2_with fail
    (first | go_ret | go_ret2)
    exact ⟨rfl, HB9.out⟩
  | true =>
  have hla := HFL.out.symm
  have HLR : Hid (∀ p ∈ l, p.right = true ∧ p.cnt ≤ 1000001) := fun p hp => by
    have := List.all_eq_true.1 hla p hp
    simp only [fitB, Bool.and_eq_true] at this
    exact ⟨this.2, by have := (light_cnt this.1).1; omega⟩
  have HAL : Hid (∀ i, (allT (l.take i)).right = true ∧ (allT (l.take i)).cnt ≤ 1000001) := fun i => allT_ok (fun p hp => (HLR.out p (List.mem_of_mem_take hp)).1) (fun p hp => (HLR.out p (List.mem_of_mem_take hp)).2)
  clear hla HFL
  obtain ⟨W7, hW7⟩ : ∃ W7, W7 = W.alloc (.cells tzc 25) := ⟨_, rfl⟩
  have b7 : Below W.heap.size W W7 := by rw [hW7]; exact bel1 W _
  have R7 : Hid (RowB W7 W.heap.size 25 tzc) := by rw [hW7]; exact RowB.new W 25 _
  have s7 : Hid (W7.heap.size = W.heap.size + 1) := by unfold Hid; rw [hW7]; simp
  have HX7 := Lib.hid (HXW.out.trans (b7.mono HXW.out.size))
  have HL7 : Hid (TV W7 (fun g => P2 g ∧ g < W.heap.size) l L lc) := (HL1.out.below HXW.out).low.below b7
  have e7 := hW7
  clear hW7
  go_wp2_with fail
  rw [← e7]
  clear e7
  obtain ⟨T, hT⟩ : ∃ T, T = W.heap.size := ⟨_, rfl⟩
  have HTe := Lib.hid hT
  rw [← hT] at R7 s7 HL7 ⊢
  have hTle : Hid (w1.heap.size ≤ T) := by unfold Hid; rw [hT]; exact HXW.out.size
  clear hT b7
  go_loopg [29] (n + 1) (fun kx s29 wr => ∃ i : Nat, s29 = .int .i64 i ∧ n - i ≤ kx ∧ i ≤ n ∧ Hid (W7.heap.size ≤ wr.heap.size ∧ ∀ g, g < T → wr.heap[g]? = W7.heap[g]?) ∧ Hid (Below w1.heap.size w1 wr) ∧ Hid (∃ Bn dn B d, RowB wr T 25 (tarr (allT (l.take i)).kind Bn (allT (l.take i)).names.length dn B (allT (l.take i)).parts.length d) ∧ TI wr (fun g => (P2 g ∧ g < T) ∨ T + 1 ≤ g) (allT (l.take i)) Bn dn B d))
  case atStart => exact ⟨0, rfl, by omega, by omega, ⟨Nat.le_refl _, fun _ _ => rfl⟩, HX7.out, ⟨none, 0, none, 0, R7.out, TI_iff.2 ⟨NV.nil _ _ _ _, TV.nil _ _ _ _⟩⟩⟩
  case round =>
    obtain ⟨i, rfl, hkx, hin, HSr, HBr, Bn, dn, B, d, hrow, hti⟩ := hrel
    have HROW := Lib.hid hrow
    have HTI := Lib.hid hti
    have hTl : T < wr.heap.size := hrow.lt
    clear hrow hti
    by_cases hi : i < n
    · have hil : (i : Int) < (n : Int) := by omega
      obtain ⟨p, ep⟩ := get_lt (l := l) (i := i) (by rw [← HN.out]; exact hi)
      obtain ⟨g, o, Cn, fn, C, f, hA, hP, hg, htp, v0, v1, v2⟩ := (show TV wr (fun g => P2 g ∧ g < T) l L lc from HL7.out.keep HSr.out.1 fun g hg hl => ⟨HSr.out.2 g hg.2, hg⟩).nth ep
      have hpr := HLR.out p (List.mem_of_getElem? ep)
      have b5 := bel1 wr (.cells (tarr p.kind Cn p.names.length fn C p.parts.length f) 25)
      obtain ⟨w5, h5⟩ : ∃ w5, w5 = wr.alloc (.cells (tarr p.kind Cn p.names.length fn C p.parts.length f) 25) := ⟨_, rfl⟩
      have R5 : Hid (RowB w5 wr.heap.size 25 (tarr p.kind Cn p.names.length fn C p.parts.length f)) := by rw [h5]; exact RowB.new wr 25 _
      rw [← h5] at b5
      have HB5 := Lib.hid b5
      have RT5 := Lib.hid (HROW.out.below b5 HROW.out.lt)
      have HTP5 := Lib.hid (htp.below b5)
      have HTI5 := Lib.hid (HTI.out.below b5)
      obtain ⟨j, hj⟩ : ∃ j, j = i + 1 := ⟨_, rfl⟩
      have hs7 := s7.out
      have hsr := HSr.out.1
      have HSS : Hid (W7.heap.size = T + 1) := hs7
      subst hA
      by_cases h0 : i = 0
      · subst h0
        have HNX : Hid (allT (l.take 1) = p) := allT_one ep
        have hq0 : ((0 : Nat) : Int) = 0 := rfl
        simp only [Nat.zero_mul, Nat.add_zero] at v0 v1 v2
        obtain ⟨kp, np, pp⟩ := p
        simp only [tarr, kind_mk, names_mk, parts_mk, List.take_zero, allT, dyn, List.length_nil] at v0 v1 v2 h5 R5 RT5
        have e5 := h5
        have rt := RT5.out.cell
        have rtt := RT5.out.thaw
        rw [e5] at rt rtt
        have HR0 := HROW.out
        simp only [tarr, List.take_zero, allT, dyn, kind_mk, names_mk, parts_mk, List.length_nil] at HR0
        have rt0 := HR0.cell
        have rtt0 := HR0.thaw
        obtain ⟨ws, hws⟩ : ∃ ws, ws = (((wr.setCell ⟨T, 0, none⟩ (.int .i64 kp)).setCell ⟨T, 1, none⟩ (.slice Cn np.length fn)).setCell ⟨T, 2, none⟩ (.slice C pp.length f)) := ⟨_, rfl⟩
        have HRS : Hid (RowB ws T 25 #[.int .i64 kp, .slice Cn np.length fn, .slice C pp.length f]) := by rw [hws]; exact ((HR0.put 0 _).put 1 _).put 2 _
        have HTSs : Hid (TI ws (fun g => (P2 g ∧ g < T) ∨ T + 1 ≤ g) (.mk kp np pp) Cn fn C f) := by rw [hws]; exact htp.put3 (fun g hg => ⟨.inl hg, by have := hg.2; omega⟩) _ _ _
        have HBS : Hid (Below w1.heap.size w1 ws) := by rw [hws]; exact below_put3 HBr.out (g := T) hTle.out _ _ _
        have HSS2 : Hid (W7.heap.size ≤ ws.heap.size ∧ ∀ g, g < T → ws.heap[g]? = W7.heap[g]?) := by
          rw [hws]
          refine ⟨by simp [World.setCell]; omega, fun g hg => ?_⟩
          rw [Below.heap_setCell _ _ _ _ (by show g ≠ T; omega), Below.heap_setCell _ _ _ _ (by show g ≠ T; omega), Below.heap_setCell _ _ _ _ (by show g ≠ T; omega), HSr.out.2 g hg]
        have bs := bel1 ws (.cells #[Value.int .i64 kp, .slice Cn np.length fn, .slice C pp.length f] 25)
        have HRN := Lib.hid (HRS.out.below bs HRS.out.lt)
        have HTN := Lib.hid (HTSs.out.below bs)
        have HBN := Lib.hid (HBS.out.trans (bs.mono HBS.out.size))
        have HSN : Hid (W7.heap.size ≤ (ws.alloc (.cells #[Value.int .i64 kp, .slice Cn np.length fn, .slice C pp.length f] 25)).heap.size ∧ ∀ g, g < T → (ws.alloc (.cells #[Value.int .i64 kp, .slice Cn np.length fn, .slice C pp.length f] 25)).heap[g]? = W7.heap[g]?) :=
          ⟨Nat.le_trans HSS2.out.1 bs.size, fun g hg => (bs.block g (by have := HSS2.out.1; omega)).trans (HSS2.out.2 g hg)⟩
        have HWS := Lib.hid hws
        clear hws bs
        have HE5 := Lib.hid e5
        clear hs7 hsr h5 b5 htp hpr ep e5 HTI HROW HTP5 HTI5 RT5 hP HR0
        go_wp2_with fail
        rw [← HWS.out]
        go_roundg (n - j)
        case measure => omega
        case rel => exact ⟨j, by rw [hj]; go_num, by omega, by omega, HSN.out, HBN.out, by rw [hj, HNX.out]; exact ⟨Cn, fn, C, f, HRN.out, HTN.out⟩⟩
      · obtain ⟨i', hi'⟩ : ∃ i', i = i' + 1 := ⟨i - 1, by omega⟩
        have HNX : Hid (allT (l.take j) = com (allT (l.take i)) p) := by unfold Hid; rw [hj, hi']; exact allT_next (by rw [← hi']; exact ep)
        have hne0 : ((i : Int) == 0) = false := by rw [beq_eq_false_iff_ne]; omega
        have hrt := HAL.out i
        obtain ⟨t, ht⟩ : ∃ t, t = allT (l.take i) := ⟨_, rfl⟩
        rw [← ht] at RT5 HTI5 HNX hrt
        have C5 := Lib.hid (rjoin_any t hrt.1 hrt.2 p hpr.1 hpr.2 w5 _ _ Bn dn B d Cn fn C f HTI5.out HTP5.out)
        obtain ⟨T5, hT5⟩ : ∃ T5, T5 = com t p := ⟨_, rfl⟩
        rw [← hT5] at C5 HNX
        obtain ⟨kt, nt, pt⟩ := t
        obtain ⟨kp, np, pp⟩ := p
        obtain ⟨k6, n6, p6⟩ := T5
        simp only [tarr, tv, kind_mk, names_mk, parts_mk] at v0 v1 v2 h5 R5 RT5 C5
        have e5 := h5
        have rt := RT5.out.cell
        rw [e5] at rt
        have hi2 := Lib.hid hi'
        clear hs7 hsr h5 b5 htp hpr ep HTI HROW hi' hT5 ht hrt HTP5 HTI5 hP
        go_wp2_with fail
        rw [← e5]
        refine C5.out.mono ?_
        rintro e w6 ⟨h6, An6, cn6, A6, c6, rfl, ht6⟩
        have RT6 := Lib.hid (RT5.out.below h6 RT5.out.lt)
        have hb6 := HB5.out.trans (h6.mono HB5.out.size)
        have HB6 := Lib.hid hb6
        have r6 := RT6.out.cell
        have r6t := RT6.out.thaw
        have HRN : Hid (RowB (((w6.setCell ⟨T, 0, none⟩ (.int .i64 k6)).setCell ⟨T, 1, none⟩ (.slice An6 n6.length cn6)).setCell ⟨T, 2, none⟩ (.slice A6 p6.length c6)) T 25 #[.int .i64 k6, .slice An6 n6.length cn6, .slice A6 p6.length c6]) := ((RT6.out.put 0 _).put 1 _).put 2 _
        have HTN : Hid (TI (((w6.setCell ⟨T, 0, none⟩ (.int .i64 k6)).setCell ⟨T, 1, none⟩ (.slice An6 n6.length cn6)).setCell ⟨T, 2, none⟩ (.slice A6 p6.length c6)) (fun g => (P2 g ∧ g < T) ∨ T + 1 ≤ g) (.mk k6 n6 p6) An6 cn6 A6 c6) := ht6.put3 (fun g hg => by
          have h1 := HB5.out.size
          rcases hg with (hg | hg) | hg
          · exact ⟨hg, by omega⟩
          · exact ⟨.inl hg, by omega⟩
          · exact ⟨.inr (by omega), by omega⟩) _ _ _
        have HBN := Lib.hid (below_put3 (HBr.out.trans (HB6.out.mono HBr.out.size)) (g := T) hTle.out (.int .i64 k6) (.slice An6 n6.length cn6) (.slice A6 p6.length c6))
        have HSN : Hid (W7.heap.size ≤ (((w6.setCell ⟨T, 0, none⟩ (.int .i64 k6)).setCell ⟨T, 1, none⟩ (.slice An6 n6.length cn6)).setCell ⟨T, 2, none⟩ (.slice A6 p6.length c6)).heap.size ∧ ∀ g, g < T → (((w6.setCell ⟨T, 0, none⟩ (.int .i64 k6)).setCell ⟨T, 1, none⟩ (.slice An6 n6.length cn6)).setCell ⟨T, 2, none⟩ (.slice A6 p6.length c6)).heap[g]? = W7.heap[g]?) := by
          have hsr := HSr.out.1
          refine ⟨by have := HB6.out.size; simp [World.setCell]; omega, fun g hg => ?_⟩
          rw [Below.heap_setCell _ _ _ _ (by show g ≠ T; omega), Below.heap_setCell _ _ _ _ (by show g ≠ T; omega), Below.heap_setCell _ _ _ _ (by show g ≠ T; omega), HB6.out.block g (by omega), HSr.out.2 g hg]
        clear h6 ht6 C5 rt e5 hb6 v0 v1 v2
        go_wp2_with fail
        go_roundg (n - j)
        case measure => omega
        case rel => exact ⟨j, by rw [hj]; go_num, by omega, by omega, HSN.out, HBN.out, by rw [HNX.out]; exact ⟨An6, cn6, A6, c6, HRN.out, HTN.out⟩⟩
    · have hil : ¬ (i : Int) < (n : Int) := by omega
      obtain rfl : n = i := by omega
      have htk : l.take n = l := List.take_of_length_le (by rw [← HN.out]; exact Nat.le_refl _)
      have hal := HAL.out n
      rw [htk] at HROW HTI hal
      obtain ⟨ta, hta⟩ : ∃ t, t = allT l := ⟨_, rfl⟩
      obtain ⟨tj, htj⟩ : ∃ t, t = com t0 t1 := ⟨_, rfl⟩
      rw [← hta] at HROW HTI hal
      have HCJ : Hid (tj.cnt ≤ 1000001) := by unfold Hid; rw [htj]; exact Nat.le_trans (com_cnt t0 H01.out.1 t1 H01.out.2.1) H01.out.2.2.1
      have HCA := Lib.hid hal.2
      have D : Below wr.heap.size wr wr.drew := Below.drew (Below.refl _ _)
      have HBD := Lib.hid (HBr.out.trans (D.mono HBr.out.size))
      have K31 := Lib.hid (awake10_any wr.drew (Tabs.step HT1.out HBD.out) (HE1.out.below HBD.out))
      have HXX : Hid (∀ w', Below wr.heap.size wr w' → Below w1.heap.size w1 w') := fun w' hb => HBr.out.trans (hb.mono HBr.out.size)
      have K36 : Hid (∀ w', Below wr.heap.size wr w' → Calls Tryz.prog 36 #[tv t0 N0 n0 V0 v0, tv t1 N1 n1 V1 v1] w' (MadeQ (fun g => (P0 g ∨ P1 g) ∨ w'.heap.size ≤ g) tj w')) := fun w' hb => by
        rw [htj]
        exact join_any t0 t1 H01.out.1 H01.out.2.1 H01.out.2.2.1 H01.out.2.2.2 w' _ _ N0 n0 V0 v0 N1 n1 V1 v1 (J0.out.below (HXX.out w' hb)) (J1.out.below (HXX.out w' hb))
      have K35 : Hid (∀ w', Below wr.heap.size wr w' → Calls Tryz.prog 35 #[tv t0 N0 n0 V0 v0, tv t1 N1 n1 V1 v1] w' (MadeQ (fun g => (P0 g ∨ P1 g) ∨ w'.heap.size ≤ g) tj w')) := fun w' hb => by
        rw [htj]
        exact rjoin_any t0 H01.out.1 H01.out.2.2.1 t1 H01.out.2.1 H01.out.2.2.2 w' _ _ N0 n0 V0 v0 N1 n1 V1 v1 (J0.out.below (HXX.out w' hb)) (J1.out.below (HXX.out w' hb))
      have K37 : Hid (∀ w', Below wr.heap.size wr w' → Calls Tryz.prog 37 #[.slice L n lc] w' (MadeQ (fun g => P2 g ∨ w'.heap.size ≤ g) ta w')) := fun w' hb => by
        have := all_types w' l _ L lc (HL1.out.below (HXX.out w' hb)) (by rw [← HN.out]; omega) (fun p hp => (HLR.out p hp).1) (fun p hp => (HLR.out p hp).2)
        rw [← hta, ← HN.out] at this
        exact this
      have K38 : Hid (∀ w', Below wr.heap.size wr w' → Calls Tryz.prog 38 #[tv t0 N0 n0 V0 v0] w' (MadeQ (fun g => w'.heap.size ≤ g) t0 w')) := fun w' hb => twin_any t0 H01.out.2.2.1 w' _ N0 n0 V0 v0 (J0.out.below (HXX.out w' hb))
      have KS : Hid (∀ t : Ty, t.cnt ≤ 1000001 → ∀ (w' : World) (P P' : Nat → Prop) (An : Option Addr) (cn : Nat) (A : Option Addr) (c : Nat) (Bn : Option Addr) (dn : Nat) (B : Option Addr) (d : Nat), TI w' P t An cn A c → TI w' P' t Bn dn B d → Calls Tryz.prog 21 #[tv t An cn A c, tv t Bn dn B d] w' fun e w2 => e = .returned (.bool true) ∧ Below w'.heap.size w' w2) := fun t ht w' P P' An cn A c Bn dn B d h h' => by
        have := rsame_any t ht t ht w' P P' An cn A c Bn dn B d h h'
        rw [same_refl] at this
        exact this
      have x3 := X0.out.below HBr.out X0.out.lt
      have x4 := X1.out.below HBr.out X1.out.lt
      have c3 := x3.cell
      have c4 := x4.cell
      have l3 := x3.lt
      have l4 := x4.lt
      have c7 := HROW.out.cell
      have HJ0 : Hid (∀ w', Below wr.heap.size wr w' → TI w' P0 t0 N0 n0 V0 v0) := fun w' hb => J0.out.below (HXX.out w' hb)
      have HCT0 := Lib.hid H01.out.2.2.1
      obtain ⟨k0, a0, b0⟩ := t0
      obtain ⟨k1, a1, b1⟩ := t1
      obtain ⟨kj, aj, bj⟩ := tj
      obtain ⟨ka, aa, ba⟩ := ta
      simp only [tarr, tcc, tv, kind_mk, names_mk, parts_mk] at K36 K35 K37 K38 c3 c4 c7
      clear hta htj hal htk X0 X1 J0 J1 x3 x4 HLR HAL HXX HROW hi HBD H01
      go_upto_region 11 with fail
      refine wp_region_G (S := SG (fun w' => Below wr.heap.size wr w') 99 (fun _ => True) 99 (fun _ => True)) (by kernel_rfl) ⟨D, fun _ => trivial, fun _ => trivial⟩ (fun hS => ?_)
      refine wpG_ready (rs := [0]) (by kernel_rfl) (by simp) ?_
      refine RG.consG rfl rfl (fun K hK => ?_) RG.nil
      go_simp
      refine (K31.out).mono ?_
      rintro e y1 ⟨rfl, hx1⟩
      go_wp2_with fail
      have HG1 := Lib.hid (D.trans (hx1.mono D.size))
      clear hx1
      refine hK.out _ _ ⟨HG1.out, fun _ => trivial, fun _ => trivial⟩ (fun hS => ?_)
      clear hK K
      try simp only [Act.put, List.setIfInBounds_toArray, List.set_cons_zero, List.set_cons_succ]
      refine wpG_take0 (i := 1) (v := ?v1) rfl (by kernel_rfl) (by kernel_rfl) (by kernel_rfl) (by decide) (by decide) (fun _ _ _ h => h) hS (Or.inl ⟨by rfl, ?hy1⟩) ?rest1
      case hy1 => (intro w' hw; go_simp; try with_reducible rfl)
      replace hS := SG.set (i := 1) (by decide) (by decide) hS
      try simp only [Act.put, List.setIfInBounds_toArray, List.set_cons_zero, List.set_cons_succ]
      refine wpG_take0 (i := 2) (v := ?v2) rfl (by kernel_rfl) (by kernel_rfl) (by kernel_rfl) (by decide) (by decide) (fun _ _ _ h => h) hS (Or.inl ⟨by rfl, ?hy2⟩) ?rest2
      case hy2 => (intro w' hw; have u := fun j => (hw.cell (p := ⟨w.heap.size, j, none⟩) l3).trans (c3 j); go_simp; try with_reducible rfl)
      replace hS := SG.set (i := 2) (by decide) (by decide) hS
      try simp only [Act.put, List.setIfInBounds_toArray, List.set_cons_zero, List.set_cons_succ]
      refine wpG_take0 (i := 3) (v := ?v3) rfl (by kernel_rfl) (by kernel_rfl) (by kernel_rfl) (by decide) (by decide) (fun _ _ _ h => h) hS (Or.inl ⟨by rfl, ?hy3⟩) ?rest3
      case hy3 => (intro w' hw; have u := fun j => (hw.cell (p := ⟨w.heap.size + 1, j, none⟩) l4).trans (c4 j); go_simp; try with_reducible rfl)
      replace hS := SG.set (i := 3) (by decide) (by decide) hS
      try simp only [Act.put, List.setIfInBounds_toArray, List.set_cons_zero, List.set_cons_succ]
      refine wpG_take0 (i := 5) (v := ?v4) rfl (by kernel_rfl) (by kernel_rfl) (by kernel_rfl) (by decide) (by decide) (fun _ _ _ h => h) hS (Or.inl ⟨by rfl, ?hy4⟩) ?rest4
      case hy4 => (intro w' hw; have u := fun j => (hw.cell (p := ⟨w.heap.size, j, none⟩) l3).trans (c3 j); go_simp; try with_reducible rfl)
      replace hS := SG.set (i := 5) (by decide) (by decide) hS
      try simp only [Act.put, List.setIfInBounds_toArray, List.set_cons_zero, List.set_cons_succ]
      refine wpG_take0 (i := 6) (v := ?v5) rfl (by kernel_rfl) (by kernel_rfl) (by kernel_rfl) (by decide) (by decide) (fun _ _ _ h => h) hS (Or.inl ⟨by rfl, ?hy5⟩) ?rest5
      case hy5 => (intro w' hw; have u := fun j => (hw.cell (p := ⟨w.heap.size + 1, j, none⟩) l4).trans (c4 j); go_simp; try with_reducible rfl)
      replace hS := SG.set (i := 6) (by decide) (by decide) hS
      try simp only [Act.put, List.setIfInBounds_toArray, List.set_cons_zero, List.set_cons_succ]
      refine wpG_ready (rs := [4]) (by kernel_rfl) (by simp) ?_
      refine RG.consG rfl rfl (fun K hK => ?_) RG.nil
      go_simp
      refine (K36.out _ HG1.out).mono ?_
      rintro e y2 ⟨hx2, En, en, E, e2, rfl, hti2⟩
      go_wp2_with fail
      have HG2 := Lib.hid (HG1.out.trans (hx2.mono HG1.out.size))
      clear hx2
      refine hK.out _ _ ⟨HG2.out, fun _ => trivial, fun _ => trivial⟩ (fun hS => ?_)
      clear hK K
      try simp only [Act.put, List.setIfInBounds_toArray, List.set_cons_zero, List.set_cons_succ]
      refine wpG_ready (rs := [7]) (by kernel_rfl) (by simp) ?_
      refine RG.consG rfl rfl (fun K hK => ?_) RG.nil
      go_simp
      refine (K35.out _ HG2.out).mono ?_
      rintro e y3 ⟨hx3, Fn, fn2, F, f3, rfl, hti3⟩
      go_wp2_with fail
      have HG3 := Lib.hid (HG2.out.trans (hx3.mono HG2.out.size))
      have hti23 := hti2.below hx3
      clear hx3
      refine hK.out _ _ ⟨HG3.out, fun _ => trivial, fun _ => trivial⟩ (fun hS => ?_)
      clear hK K
      try simp only [Act.put, List.setIfInBounds_toArray, List.set_cons_zero, List.set_cons_succ]
      refine wpG_ready (rs := [8]) (by kernel_rfl) (by simp) ?_
      refine RG.consG rfl rfl (fun K hK => ?_) RG.nil
      go_simp
      refine (KS.out (.mk kj aj bj) HCJ.out _ _ _ En en E e2 Fn fn2 F f3 hti23 hti3).mono ?_
      rintro e y4 ⟨rfl, hx4⟩
      go_wp2_with fail
      have HG4 := Lib.hid (HG3.out.trans (hx4.mono HG3.out.size))
      clear hx4
      refine hK.out _ _ ⟨HG4.out, fun _ => trivial, fun _ => trivial⟩ (fun hS => ?_)
      clear hK K
      try simp only [Act.put, List.setIfInBounds_toArray, List.set_cons_zero, List.set_cons_succ]
      refine wpG_take0 (i := 9) (v := ?v6) rfl (by kernel_rfl) (by kernel_rfl) (by kernel_rfl) (by decide) (by decide) (fun _ _ _ h => h) hS (Or.inl ⟨by rfl, ?hy6⟩) ?rest6
      case hy6 => (intro w' hw; go_simp; try with_reducible rfl)
      replace hS := SG.set (i := 9) (by decide) (by decide) hS
      try simp only [Act.put, List.setIfInBounds_toArray, List.set_cons_zero, List.set_cons_succ]
      refine wpG_take0 (i := 10) (v := ?v7) rfl (by kernel_rfl) (by kernel_rfl) (by kernel_rfl) (by decide) (by decide) (fun _ _ _ h => h) hS (Or.inl ⟨by rfl, ?hy7⟩) ?rest7
      case hy7 => (intro w' hw; go_simp; try with_reducible rfl)
      replace hS := SG.set (i := 10) (by decide) (by decide) hS
      try simp only [Act.put, List.setIfInBounds_toArray, List.set_cons_zero, List.set_cons_succ]
      refine wpG_take0 (i := 11) (v := ?v8) rfl (by kernel_rfl) (by kernel_rfl) (by kernel_rfl) (by decide) (by decide) (fun _ _ _ h => h) hS (Or.inl ⟨by rfl, ?hy8⟩) ?rest8
      case hy8 => (intro w' hw; go_simp; try with_reducible rfl)
      replace hS := SG.set (i := 11) (by decide) (by decide) hS
      try simp only [Act.put, List.setIfInBounds_toArray, List.set_cons_zero, List.set_cons_succ]
      refine wpG_take0 (i := 13) (v := ?v9) rfl (by kernel_rfl) (by kernel_rfl) (by kernel_rfl) (by decide) (by decide) (fun _ _ _ h => h) hS (Or.inl ⟨by rfl, ?hy9⟩) ?rest9
      case hy9 => (intro w' hw; have u := fun j => (hw.cell (p := ⟨T, j, none⟩) hTl).trans (c7 j); go_simp; try with_reducible rfl)
      replace hS := SG.set (i := 13) (by decide) (by decide) hS
      try simp only [Act.put, List.setIfInBounds_toArray, List.set_cons_zero, List.set_cons_succ]
      refine wpG_ready (rs := [12]) (by kernel_rfl) (by simp) ?_
      refine RG.consG rfl rfl (fun K hK => ?_) RG.nil
      go_simp
      refine (K37.out _ HG4.out).mono ?_
      rintro e y5 ⟨hx5, Gn, gn, G, g5, rfl, hti5⟩
      go_wp2_with fail
      have HG5 := Lib.hid (HG4.out.trans (hx5.mono HG4.out.size))
      clear hx5
      refine hK.out _ _ ⟨HG5.out, fun _ => trivial, fun _ => trivial⟩ (fun hS => ?_)
      clear hK K
      try simp only [Act.put, List.setIfInBounds_toArray, List.set_cons_zero, List.set_cons_succ]
      refine wpG_ready (rs := [14]) (by kernel_rfl) (by simp) ?_
      refine RG.consG rfl rfl (fun K hK => ?_) RG.nil
      go_simp
      refine (KS.out (.mk ka aa ba) HCA.out _ _ _ Gn gn G g5 Bn dn B d hti5 (HTI.out.below HG5.out)).mono ?_
      rintro e y6 ⟨rfl, hx6⟩
      go_wp2_with fail
      have HG6 := Lib.hid (HG5.out.trans (hx6.mono HG5.out.size))
      clear hx6
      refine hK.out _ _ ⟨HG6.out, fun _ => trivial, fun _ => trivial⟩ (fun hS => ?_)
      clear hK K
      try simp only [Act.put, List.setIfInBounds_toArray, List.set_cons_zero, List.set_cons_succ]
      refine wpG_take0 (i := 15) (v := ?v10) rfl (by kernel_rfl) (by kernel_rfl) (by kernel_rfl) (by decide) (by decide) (fun _ _ _ h => h) hS (Or.inl ⟨by rfl, ?hy10⟩) ?rest10
      case hy10 => (intro w' hw; go_simp; try with_reducible rfl)
      replace hS := SG.set (i := 15) (by decide) (by decide) hS
      try simp only [Act.put, List.setIfInBounds_toArray, List.set_cons_zero, List.set_cons_succ]
      refine wpG_take0 (i := 16) (v := ?v11) rfl (by kernel_rfl) (by kernel_rfl) (by kernel_rfl) (by decide) (by decide) (fun _ _ _ h => h) hS (Or.inl ⟨by rfl, ?hy11⟩) ?rest11
      case hy11 => (intro w' hw; go_simp; try with_reducible rfl)
      replace hS := SG.set (i := 16) (by decide) (by decide) hS
      try simp only [Act.put, List.setIfInBounds_toArray, List.set_cons_zero, List.set_cons_succ]
      refine wpG_take0 (i := 17) (v := ?v12) rfl (by kernel_rfl) (by kernel_rfl) (by kernel_rfl) (by decide) (by decide) (fun _ _ _ h => h) hS (Or.inl ⟨by rfl, ?hy12⟩) ?rest12
      case hy12 => (intro w' hw; have u := fun j => (hw.cell (p := ⟨w.heap.size, j, none⟩) l3).trans (c3 j); go_simp; try with_reducible rfl)
      replace hS := SG.set (i := 17) (by decide) (by decide) hS
      try simp only [Act.put, List.setIfInBounds_toArray, List.set_cons_zero, List.set_cons_succ]
      refine wpG_take0 (i := 19) (v := ?v13) rfl (by kernel_rfl) (by kernel_rfl) (by kernel_rfl) (by decide) (by decide) (fun _ _ _ h => h) hS (Or.inl ⟨by rfl, ?hy13⟩) ?rest13
      case hy13 => (intro w' hw; have u := fun j => (hw.cell (p := ⟨w.heap.size, j, none⟩) l3).trans (c3 j); go_simp; try with_reducible rfl)
      replace hS := SG.set (i := 19) (by decide) (by decide) hS
      try simp only [Act.put, List.setIfInBounds_toArray, List.set_cons_zero, List.set_cons_succ]
      refine wpG_ready (rs := [18]) (by kernel_rfl) (by simp) ?_
      refine RG.consG rfl rfl (fun K hK => ?_) RG.nil
      go_simp
      refine (K38.out _ HG6.out).mono ?_
      rintro e y7 ⟨hx7, In, in2, I, i7, rfl, hti7⟩
      go_wp2_with fail
      have HG7 := Lib.hid (HG6.out.trans (hx7.mono HG6.out.size))
      clear hx7
      refine hK.out _ _ ⟨HG7.out, fun _ => trivial, fun _ => trivial⟩ (fun hS => ?_)
      clear hK K
      try simp only [Act.put, List.setIfInBounds_toArray, List.set_cons_zero, List.set_cons_succ]
      refine wpG_ready (rs := [20]) (by kernel_rfl) (by simp) ?_
      refine RG.consG rfl rfl (fun K hK => ?_) RG.nil
      go_simp
      refine (KS.out (.mk k0 a0 b0) HCT0.out _ _ _ In in2 I i7 N0 n0 V0 v0 hti7 (HJ0.out _ HG7.out)).mono ?_
      rintro e y8 ⟨rfl, hx8⟩
      go_wp2_with fail
      have HG8 := Lib.hid (HG7.out.trans (hx8.mono HG7.out.size))
      clear hx8
      refine hK.out _ _ ⟨HG8.out, fun _ => trivial, fun _ => trivial⟩ (fun hS => ?_)
      clear hK K
      try simp only [Act.put, List.setIfInBounds_toArray, List.set_cons_zero, List.set_cons_succ]
      refine wpG_take0 (i := 21) (v := ?v14) rfl (by kernel_rfl) (by kernel_rfl) (by kernel_rfl) (by decide) (by decide) (fun _ _ _ h => h) hS (Or.inl ⟨by rfl, ?hy14⟩) ?rest14
      case hy14 => (intro w' hw; go_simp; try with_reducible rfl)
      replace hS := SG.set (i := 21) (by decide) (by decide) hS
      try simp only [Act.put, List.setIfInBounds_toArray, List.set_cons_zero, List.set_cons_succ]
      refine wpG_take0 (i := 22) (v := ?v15) rfl (by kernel_rfl) (by kernel_rfl) (by kernel_rfl) (by decide) (by decide) (fun _ _ _ h => h) hS (Or.inl ⟨by rfl, ?hy15⟩) ?rest15
      case hy15 => (intro w' hw; go_simp; try with_reducible rfl)
      replace hS := SG.set (i := 22) (by decide) (by decide) hS
      try simp only [Act.put, List.setIfInBounds_toArray, List.set_cons_zero, List.set_cons_succ]
      refine wpG_done (by kernel_rfl) ?_ _
      have HBF := Lib.hid (HB1.out.trans ((HBr.out.trans (HG8.out.mono HBr.out.size)).mono HB1.out.size))
      go_wp2_with fail
      (first | go_ret | go_ret2)
      exact ⟨rfl, HBF.out⟩
end Tm
end Go.Proofs.YtifkjngclkklfaaGreatDoor
