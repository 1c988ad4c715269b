/- Contracts: what a record's tree tells, by the program. -/
import Derived.Test.YtifkjngclkklfaaGreatDoorMGn
import Derived.Test.YtifkjngclkklfaaGreatDoorWO
namespace Go.Proofs.YtifkjngclkklfaaGreatDoor
open Go.RowKit Go.Op
namespace Tm
open Ps Pg
/-- What is known of the nodes below a forest's. -/
def TIH (k : Fo) : Prop := ∀ i h kk r, k.drop i = .cons h kk r → ∀ h2 kk2 r2, kk = .cons h2 kk2 r2 → ∀ (w' : World) (P' : Nat → Prop) (A3 : Option Addr) (c3 : Nat), KV w' P' kk2 A3 c3 → Calls Tryz.prog 78 #[nvv h2 A3 kk2.len c3] w' (ToldQ (tri kk).1 w')
theorem fin_start (k : Fo) : fin [] [] (tri (k.drop 0)).2.1 = (tri k).2.1 := by
  rw [Fo.drop_zero]; rfl
set_option maxHeartbeats 8000000 in
set_option maxRecDepth 100000 in
theorem trec_step (w : World) (k : Fo) (P : Nat → Prop) (A : Option Addr) (cap : Nat) (hK : KV w P k A cap) (hl : k.len ≤ 1000001) (hwk : ∀ i h kk r, k.drop i = .cons h kk r → h.word.size ≤ 140737488351232) (IH : TIH k) :
    Calls Tryz.prog 100 #[.slice A k.len cap] w (ToldQ (recEnd (tri k).2.1) w) := by
  obtain ⟨W0, hW0⟩ : ∃ W0, W0 = w.alloc (.cells tzc 25) := ⟨_, rfl⟩
  have B0 : Hid (Below w.heap.size w W0) := by rw [hW0]; exact bel1 w _
  have X0 : Hid (RowB W0 w.heap.size 25 tzc) := by rw [hW0]; exact RowB.new w 25 tzc
  have HW0 : Hid (W0.heap.size = w.heap.size + 1) := by rw [hW0]; simp [Hid]
  obtain ⟨R, hR⟩ : ∃ R, R = recEnd (tri k).2.1 := ⟨_, rfl⟩
  rw [← hR]
  have HR := Lib.hid hR
  have HK := Lib.hid (hK.below B0.out)
  have HI := Lib.hid IH
  have HWK := Lib.hid hwk
  obtain ⟨n, hn⟩ : ∃ n, n = k.len := ⟨_, rfl⟩
  rw [← hn] at hl ⊢
  have HN := Lib.hid hn
  clear hK hwk IH hR hn
  go_enter Tryz.func100, Tryz.ntmps100
  go_wp2_with fail
  rw [← hW0]
  clear hW0
  go_loopg [4, 5, 12] (n + 1) (fun kx s4 s5 s12 wr => ∃ (i : Nat) (nl : List ByteArray) (tl : List Ty) (cs : List Value), s12 = .int .i64 i ∧ n - i ≤ kx ∧ i ≤ n ∧ nl.length = i ∧ tl.length = i ∧ Hid (RT W0 wr s4 s5 nl tl cs) ∧ Hid (∀ s ∈ nl, s.size ≤ 140737488351232) ∧ Hid (R = recEnd (fin nl tl (tri (k.drop i)).2.1)))
  case atStart => exact ⟨0, [], [], [], rfl, by omega, by omega, rfl, rfl, RT.start _ _ (Below.refl _ _), (fun s hs => by simp at hs), by unfold Hid; rw [fin_start]; exact HR.out⟩
  case round =>
    obtain ⟨i, nl, tl, cs, rfl, hkx, hin, hnl, htl, HRT, HSZ, HEQ⟩ := hrel
    have Y0 := Lib.hid (X0.out.below HRT.out.be X0.out.lt)
    have HBw : Hid (Below w.heap.size w wr) := B0.out.trans (HRT.out.be.mono B0.out.size)
    have hRs : w.heap.size < W0.heap.size := by have := HW0.out; omega
    by_cases hi : i < n
    · have hil : (i : Int) < (n : Int) := by omega
      obtain ⟨h', kk, e⟩ := Fo.drop_cons k i (by rw [← HN.out]; exact hi)
      obtain ⟨g, o, A2, c2, rfl, hP, hg, hkk, c0, c1, c2', c3, c4', c5⟩ := KV.nth (HK.out.below HRT.out.be) e
      have HE := Lib.hid e
      have HEQ1 : Hid (R = recEnd (fin nl tl (tri (Fo.cons h' kk (k.drop (i + 1)))).2.1)) := by
        unfold Hid
        rw [← e]
        exact HEQ.out
      obtain ⟨j, hj⟩ : ∃ j, j = i + 1 := ⟨_, rfl⟩
      rw [← hj] at HEQ1
      obtain ⟨kz, hkz⟩ : ∃ kz : Int, kz = (h'.kind : Int) := ⟨_, rfl⟩
      obtain ⟨nk, hnk⟩ : ∃ nk, nk = kk.len := ⟨_, rfl⟩
      obtain ⟨s, hs⟩ : ∃ s, s = h'.word := ⟨_, rfl⟩
      have HS : Hid (s.size ≤ 140737488351232) := by unfold Hid; rw [hs]; exact HWK.out _ _ _ _ e
      rw [← hkz] at c0
      rw [← hnk] at c5
      rw [← hs] at c3
      have Y1 := Lib.hid (Y0.out.alloc (.cells (#[.int .i64 kz, .int .i64 h'.fro, .int .i64 h'.til, .string s, .int .i64 h'.at_, .slice A2 nk c2] : Array Value) 71))
      have y1 := Y1.out.cell
      have y1t := Y1.out.thaw
      have HBv : Hid (Below wr.heap.size wr (wr.alloc (.cells (#[.int .i64 kz, .int .i64 h'.fro, .int .i64 h'.til, .string s, .int .i64 h'.at_, .slice A2 nk c2] : Array Value) 71))) := bel1 wr _
      have HBB : Hid (Below w.heap.size w (wr.alloc (.cells (#[.int .i64 kz, .int .i64 h'.fro, .int .i64 h'.til, .string s, .int .i64 h'.at_, .slice A2 nk c2] : Array Value) 71))) := HBw.out.trans (HBv.out.mono HBw.out.size)
      have HKZ := Lib.hid hkz
      have HNK := Lib.hid hnk
      have HSW := Lib.hid hs
      have HKK := Lib.hid hkk
      have HJ := Lib.hid hj
      by_cases hk : h'.kind = 33 ∧ kk.len = 1
      case neg =>
        have HF : Hid (R = (8, dyn)) := by
          unfold Hid
          rw [HEQ1.out]
          exact fin_bad1 hk
        have hx : ¬ kz = 33 ∨ (kz = 33 ∧ ¬ nk = 1) := by
          by_cases h : kz = 33
          · exact .inr ⟨h, fun h' => hk ⟨by omega, by omega⟩⟩
          · exact .inl h
        clear hkz hnk hs hkk hk hj e HE HRT HEQ HEQ1 HKK HI HWK
        rcases hx with hx | ⟨hx, hx2⟩
        · go_wp2_with fail
          refine bodyPost_ret (v := .tuple #[tz, .int .i64 8]) ?_ rfl (by rw [HF.out]; exact ToldQ.none (below_put3 HBB.out (Nat.le_refl _) _ _ _))
          simp [results, Tryz.results100, go_sem, y1]
          try first | rfl | exact ⟨rfl, rfl⟩
        · subst hx
          have hx3 : ¬ (nk : Int) = 1 := by omega
          go_wp2_with fail
          refine bodyPost_ret (v := .tuple #[tz, .int .i64 8]) ?_ rfl (by rw [HF.out]; exact ToldQ.none (below_put3 HBB.out (Nat.le_refl _) _ _ _))
          simp [results, Tryz.results100, go_sem, y1]
          try first | rfl | exact ⟨rfl, rfl⟩
      case pos =>
      have hkz3 : kz = 33 := by rw [hkz, hk.1]; rfl
      have hnk1 : nk = 1 := by rw [hnk, hk.2]
      have HHK := Lib.hid hk
      obtain ⟨h2, kk2, r2, hkk2⟩ : ∃ h2 kk2 r2, kk = .cons h2 kk2 r2 := by
        cases kk with
        | nil => simp [Fo.len] at hk
        | cons a b c => exact ⟨a, b, c, rfl⟩
      obtain ⟨g2, o2, A3, c3x, hA3, hP3, hg3, hkk3, d0, d1, d2, d3, d4, d5⟩ := KV.nth (i := 0) (h := h2) (kk := kk2) (r := r2) (hkk.below HBv.out) (by rw [Fo.drop_zero]; exact hkk2)
      simp only [Nat.zero_mul, Nat.add_zero] at d0 d1 d2 d3 d4 d5
      have CC := Lib.hid (HI.out i h' kk _ e h2 kk2 r2 hkk2 _ P A3 c3x hkk3)
      obtain ⟨z, hz⟩ : ∃ z, z = (tri kk).1.1 := ⟨_, rfl⟩
      obtain ⟨t, ht⟩ : ∃ t, t = (tri kk).1.2 := ⟨_, rfl⟩
      have hzt : (tri kk).1 = (z, t) := by rw [hz, ht]
      rw [hzt] at CC
      have HZ := Lib.hid hz
      have HT := Lib.hid ht
      obtain ⟨m2, hm2⟩ : ∃ m2, m2 = kk2.len := ⟨_, rfl⟩
      rw [← hm2] at d5 CC
      obtain ⟨ga, hga⟩ : ∃ ga, ga = wr.heap.size := ⟨_, rfl⟩
      have RA : Hid (RowB (wr.alloc (.cells (#[.int .i64 kz, .int .i64 h'.fro, .int .i64 h'.til, .string s, .int .i64 h'.at_, .slice A2 nk c2] : Array Value) 71)) ga 71 #[.int .i64 kz, .int .i64 h'.fro, .int .i64 h'.til, .string s, .int .i64 h'.at_, .slice A2 nk c2]) := by
        rw [hga]; exact RowB.new wr 71 _
      have HGA := Lib.hid hga
      subst hnk1 hkz3 hA3
      clear hkz hnk hs hkk hk hj e hzt hz ht hm2 hkk2 hkk3 hP3 hga HKK y1 y1t
      go_wp2_with fail
      refine CC.out.mono ?_
      rintro e w2 ⟨An, cn, A4, c4, rfl, hti, hb2⟩
      have hrp0 := (HRT.out.below HBv.out).pend hb2 hti
      have HBw2 : Hid (Below w.heap.size w w2) := HBB.out.trans (hb2.mono HBB.out.size)
      obtain ⟨kt, nt, pt⟩ := t
      simp only
      obtain ⟨gb, hgb⟩ : ∃ gb, gb = w2.heap.size := ⟨_, rfl⟩
      obtain ⟨V, hV⟩ : ∃ V, V = w2.alloc (.cells (#[Value.int .i64 kt, .slice An nt.length cn, .slice A4 pt.length c4] : Array Value) 25) := ⟨_, rfl⟩
      have hab : Hid (ga < gb) := by rw [hgb]; exact Nat.lt_of_lt_of_le RA.out.lt hb2.size
      have RB : Hid (RowB V gb 25 #[Value.int .i64 kt, .slice An nt.length cn, .slice A4 pt.length c4]) := by rw [hV, hgb]; exact RowB.new w2 25 _
      have RA2 : Hid (RowB V ga 71 #[.int .i64 33, .int .i64 h'.fro, .int .i64 h'.til, .string s, .int .i64 h'.at_, .slice (some ⟨g2, o2, none⟩) 1 c2]) := by rw [hV]; exact (RA.out.below hb2 RA.out.lt).alloc _
      have Y2 : Hid (RowB V w.heap.size 25 tzc) := by rw [hV]; exact (Y1.out.below hb2 Y1.out.lt).alloc _
      have HRP : Hid (RP W0 V u4 u5 nl tl cs (.mk kt nt pt) An cn A4 c4) := by
        rw [hV]; exact hrp0.below (bel1 w2 _)
      have HBV : Hid (Below w.heap.size w V) := by rw [hV]; exact HBw2.out.trans ((bel1 w2 _).mono HBw2.out.size)
      have HV := Lib.hid hV
      have HGB := Lib.hid hgb
      clear hti hb2 hrp0 CC RA hgb d0 d1 d2 d3 d4 d5 c0 c1 c2' c3 c4' c5
      by_cases hz0 : z = 0
      case neg =>
        have HF : Hid (R = (z, dyn)) := by
          unfold Hid
          rw [HEQ1.out, fin_bad2 HHK.out (by rw [← HZ.out]; exact hz0), ← HZ.out]
        have y2 := Y2.out.cell
        have y2t := Y2.out.thaw
        rw [hV] at y2 y2t
        have hzb : (z == 0) = false := by simpa using hz0
        have HBV2 := HBV.out
        rw [hV] at HBV2
        have HBV3 := Lib.hid HBV2
        clear HRT HRP HEQ HEQ1 HI HWK hV HBV2 HV
        obtain rfl : R = (z, dyn) := HF.out
        go_wp2_with fail
        refine bodyPost_ret (v := .tuple #[tz, .int .i64 z]) ?_ rfl (ToldQ.none (below_put3 HBV3.out (Nat.le_refl _) _ _ _))
        simp [results, Tryz.results100, go_sem, y2]
        try first | rfl | exact ⟨rfl, rfl⟩
      case pos =>
      have HEQ2 : Hid (R = recEnd (fin (nl ++ [s]) (tl ++ [.mk kt nt pt]) (tri (k.drop j)).2.1)) := by
        unfold Hid
        rw [HEQ1.out, fin_next HHK.out (by rw [← HZ.out]; exact hz0), HT.out, HSW.out]
      have HSZ2 : Hid (∀ s' ∈ nl ++ [s], s'.size ≤ 140737488351232) := fun s' h => by
        rcases List.mem_append.1 h with h | h
        · exact HSZ.out _ h
        · obtain rfl : s' = s := by simpa using h
          exact HS.out
      subst hz0
      have hln1 : nl.length ≤ 1000001 := by omega
      have hln2 : tl.length ≤ 1000001 := by omega
      have hj := HJ.out
      have hjl : (nl ++ [s]).length = j ∧ (tl ++ [Ty.mk kt nt pt]).length = j := by
        simp only [List.length_append, List.length_cons, List.length_nil]; omega
      have HJL := Lib.hid hjl
      have y2 := RB.out.cell
      rw [hV] at y2
      have yk := RA2.out.cell
      rw [hV] at yk
      clear HEQ HEQ1 HI HWK hjl hnl htl
      go_wp2_with fail
      rw [← hV] at yk y2 ⊢
      rw [← HGA.out, ← HGB.out]
      clear hV yk y2
      obtain ⟨i9, hi9, hz9, hs9, hb9⟩ := info_parts info9
      obtain ⟨iT, hiT, hzT, hsT, hbT⟩ := info_parts infoT
      have ho1 := HRP.out.rt.o1
      have ho2 := HRP.out.rt.o2
      have hbs : V.heap.size = gb + 1 := by rw [HV.out, HGB.out]; simp
      have hgw : W0.heap.size ≤ V.heap.size := HRP.out.rt.be.size
      have hga1 : ga < gb := hab.out
      have hlo1 : ∀ q, u4.ownBlock = some q → q < ga := fun q hq => by rw [HGA.out]; exact (HRT.out.o1.lt q hq).2
      have hlo2 : ∀ q, u5.ownBlock = some q → q < ga := fun q hq => by rw [HGA.out]; exact (HRT.out.o2.lt q hq).2
      have e1a : (some ga : Option Nat) ≠ u4.ownBlock := fun e => by have := hlo1 _ e.symm; omega
      have e1b : (some gb : Option Nat) ≠ u4.ownBlock := fun e => by have := hlo1 _ e.symm; omega
      have e2a : (some ga : Option Nat) ≠ u5.ownBlock := fun e => by have := hlo2 _ e.symm; omega
      have e2b : (some gb : Option Nat) ≠ u5.ownBlock := fun e => by have := hlo2 _ e.symm; omega
      have e3 : (some V.heap.size : Option Nat) ≠ u4.ownBlock := fun e => by have := hlo1 _ e.symm; omega
      have e4 : (some (V.heap.size + 1) : Option Nat) ≠ u4.ownBlock := fun e => by have := hlo1 _ e.symm; omega
      have KS : ∀ V' : World, RowB V' ga 71 #[.int .i64 33, .int .i64 h'.fro, .int .i64 h'.til, .string s, .int .i64 h'.at_, .slice (some ⟨g2, o2, none⟩) 1 c2] → RowB V' gb 25 #[Value.int .i64 kt, .slice An nt.length cn, .slice A4 pt.length c4] → ((∀ jj, V'.cell? ⟨ga, jj, none⟩ = (#[Value.int .i64 33, .int .i64 h'.fro, .int .i64 h'.til, .string s, .int .i64 h'.at_, .slice (some ⟨g2, o2, none⟩) 1 c2] : Array Value)[jj]?) ∧ ∀ jj, V'.cell? ⟨gb, jj, none⟩ = (#[Value.int .i64 kt, .slice An nt.length cn, .slice A4 pt.length c4] : Array Value)[jj]?) := fun V' h1 h2 => ⟨h1.cell, h2.cell⟩
      have ra0 := RA2.out
      have rb0 := RB.out
      have HS0 := KS V.drew ra0 rb0
      have HSA : ∀ ob, ((∀ jj, (V.alloc ob).drew.cell? ⟨ga, jj, none⟩ = (#[Value.int .i64 33, .int .i64 h'.fro, .int .i64 h'.til, .string s, .int .i64 h'.at_, .slice (some ⟨g2, o2, none⟩) 1 c2] : Array Value)[jj]?) ∧ ∀ jj, (V.alloc ob).drew.cell? ⟨gb, jj, none⟩ = (#[Value.int .i64 kt, .slice An nt.length cn, .slice A4 pt.length c4] : Array Value)[jj]?) := fun ob => KS _ (ra0.alloc ob) (rb0.alloc ob)
      have HSB : ∀ ob oc, ((∀ jj, ((V.alloc ob).alloc oc).drew.cell? ⟨ga, jj, none⟩ = (#[Value.int .i64 33, .int .i64 h'.fro, .int .i64 h'.til, .string s, .int .i64 h'.at_, .slice (some ⟨g2, o2, none⟩) 1 c2] : Array Value)[jj]?) ∧ ∀ jj, ((V.alloc ob).alloc oc).drew.cell? ⟨gb, jj, none⟩ = (#[Value.int .i64 kt, .slice An nt.length cn, .slice A4 pt.length c4] : Array Value)[jj]?) := fun ob oc => KS _ ((ra0.alloc ob).alloc oc) ((rb0.alloc ob).alloc oc)
      have ka1 : RowB (V.alloc (.cells #[Value.string s] 9)).drew ga 71 #[Value.int .i64 33, .int .i64 h'.fro, .int .i64 h'.til, .string s, .int .i64 h'.at_, .slice (some ⟨g2, o2, none⟩) 1 c2] := ra0.alloc _
      have kb1 : RowB (V.alloc (.cells #[Value.string s] 9)).drew gb 25 #[Value.int .i64 kt, .slice An nt.length cn, .slice A4 pt.length c4] := rb0.alloc _
      have A1 : RP W0 (V.alloc (.cells #[Value.string s] 9)).drew u4 u5 nl tl cs (.mk kt nt pt) An cn A4 c4 := RP.drewx (HRP.out.below (bel1 V _))
      have ka2 : RowB ((V.alloc (.cells #[Value.string s] 9)).alloc (.cells #[Value.int .i64 kt, .slice An nt.length cn, .slice A4 pt.length c4] 25)).drew ga 71 #[Value.int .i64 33, .int .i64 h'.fro, .int .i64 h'.til, .string s, .int .i64 h'.at_, .slice (some ⟨g2, o2, none⟩) 1 c2] := (ra0.alloc _).alloc _
      have kb2 : RowB ((V.alloc (.cells #[Value.string s] 9)).alloc (.cells #[Value.int .i64 kt, .slice An nt.length cn, .slice A4 pt.length c4] 25)).drew gb 25 #[Value.int .i64 kt, .slice An nt.length cn, .slice A4 pt.length c4] := (rb0.alloc _).alloc _
      have A2x : RP W0 ((V.alloc (.cells #[Value.string s] 9)).alloc (.cells #[Value.int .i64 kt, .slice An nt.length cn, .slice A4 pt.length c4] 25)).drew u4 u5 nl tl cs (.mk kt nt pt) An cn A4 c4 := RP.drewx ((HRP.out.below (bel1 V _)).below (bel1 _ _))
      have ka3 : RowB ((V.alloc (.cells #[Value.int .i64 kt, .slice An nt.length cn, .slice A4 pt.length c4] 25)).alloc (.cells #[Value.string s] 9)).drew ga 71 #[Value.int .i64 33, .int .i64 h'.fro, .int .i64 h'.til, .string s, .int .i64 h'.at_, .slice (some ⟨g2, o2, none⟩) 1 c2] := (ra0.alloc _).alloc _
      have kb3 : RowB ((V.alloc (.cells #[Value.int .i64 kt, .slice An nt.length cn, .slice A4 pt.length c4] 25)).alloc (.cells #[Value.string s] 9)).drew gb 25 #[Value.int .i64 kt, .slice An nt.length cn, .slice A4 pt.length c4] := (rb0.alloc _).alloc _
      have A3x : RP W0 ((V.alloc (.cells #[Value.int .i64 kt, .slice An nt.length cn, .slice A4 pt.length c4] 25)).alloc (.cells #[Value.string s] 9)).drew u4 u5 nl tl cs (.mk kt nt pt) An cn A4 c4 := RP.drewx ((HRP.out.below (bel1 V _)).below (bel1 _ _))
      have RX1 : RowB (V.alloc (.cells #[Value.string s] 9)).drew V.heap.size 9 #[Value.string s] := RowB.new V 9 _
      have RX2 : RowB ((V.alloc (.cells #[Value.string s] 9)).alloc (.cells #[Value.int .i64 kt, .slice An nt.length cn, .slice A4 pt.length c4] 25)).drew V.heap.size 9 #[Value.string s] := (RowB.new V 9 #[Value.string s]).alloc _
      have RX3 : RowB ((V.alloc (.cells #[Value.int .i64 kt, .slice An nt.length cn, .slice A4 pt.length c4] 25)).alloc (.cells #[Value.string s] 9)).drew (V.heap.size + 1) 9 #[Value.string s] := by
        have := RowB.new (V.alloc (.cells #[Value.int .i64 kt, .slice An nt.length cn, .slice A4 pt.length c4] 25)) 9 #[Value.string s]
        have h2 : (V.alloc (.cells #[Value.int .i64 kt, .slice An nt.length cn, .slice A4 pt.length c4] 25)).heap.size = V.heap.size + 1 := by simp
        rw [h2] at this
        exact this
      have RY2 : RowB ((V.alloc (.cells #[Value.string s] 9)).alloc (.cells #[Value.int .i64 kt, .slice An nt.length cn, .slice A4 pt.length c4] 25)).drew (V.heap.size + 1) 25 #[Value.int .i64 kt, .slice An nt.length cn, .slice A4 pt.length c4] := by
        have := RowB.new (V.alloc (.cells #[Value.string s] 9)) 25 #[Value.int .i64 kt, .slice An nt.length cn, .slice A4 pt.length c4]
        have h2 : (V.alloc (.cells #[Value.string s] 9)).heap.size = V.heap.size + 1 := by simp
        rw [h2] at this
        exact this
      have RY3 : RowB ((V.alloc (.cells #[Value.int .i64 kt, .slice An nt.length cn, .slice A4 pt.length c4] 25)).alloc (.cells #[Value.string s] 9)).drew V.heap.size 25 #[Value.int .i64 kt, .slice An nt.length cn, .slice A4 pt.length c4] := (RowB.new V 25 #[Value.int .i64 kt, .slice An nt.length cn, .slice A4 pt.length c4]).alloc _
      have b1 : nl.length + 1 ≤ maxLen := by unfold maxLen; omega
      have b2 : (nl.length + 1) * 16 ≤ 140737488355328 := by omega
      have b3 : tl.length + 1 ≤ maxLen := by unfold maxLen; omega
      have b4 : (tl.length + 1) * 56 ≤ 140737488355328 := by omega
      have oc1 : ∀ u ∈ [Value.string s], u.oneCell' = true := by simp [Value.oneCell']
      have oc2 : ∀ u ∈ (#[Value.int .i64 kt, .slice An nt.length cn, .slice A4 pt.length c4] : Array Value).toList, u.oneCell' = true := by simp [Value.oneCell']
      clear ho1 ho2 hlo1 hlo2 hbs
      go_region_held3 (fun w' => ((∀ jj, w'.cell? ⟨ga, jj, none⟩ = (#[Value.int .i64 33, .int .i64 h'.fro, .int .i64 h'.til, .string s, .int .i64 h'.at_, .slice (some ⟨g2, o2, none⟩) 1 c2] : Array Value)[jj]?) ∧ ∀ jj, w'.cell? ⟨gb, jj, none⟩ = (#[Value.int .i64 kt, .slice An nt.length cn, .slice A4 pt.length c4] : Array Value)[jj]?))
        (first
          | (with_reducible exact HS0)
          | (with_reducible exact HSA _)
          | (with_reducible exact HSB _ _)
          | (with_reducible exact HS1)
          | (with_reducible exact HS1a _)
          | (with_reducible exact HS2)
          | fail)
        (first
          | (refine step_append_lies (V.alloc (.cells #[Value.string s] 9)).drew (by rfl) (.tmp 38) (.tmp 41) 22 (by rfl) W0.heap.size 9 i9 _ 1 16 Tryz.underlying22 hi9 hz9 hs9 hb9 rfl (by omega) u4 nl.length (nl.map Value.string) (by rfl) A1.rt.o1 ⟨V.heap.size, 0, none⟩ 1 1 [Value.string s] (by rfl) (by rfl) (World.news_of_block RX1) oc1 (by omega) b1 b2 A1.rt.be.size _ rfl ?_; intro gg capa w1 hown hgrow hat hlt; have Q1 := A1.app1 hown hgrow rfl hat; have ra1 := ka1.grown hgrow e1a; have rb1 := kb1.grown hgrow e1b; have HS1 := KS w1 ra1 rb1; have HS1a := fun ob => KS _ (ra1.alloc ob) (rb1.alloc ob); clear hown hgrow hat)
          | (refine step_append_lies ((V.alloc (.cells #[Value.string s] 9)).alloc (.cells #[Value.int .i64 kt, .slice An nt.length cn, .slice A4 pt.length c4] 25)).drew (by rfl) (.tmp 38) (.tmp 41) 22 (by rfl) W0.heap.size 9 i9 _ 1 16 Tryz.underlying22 hi9 hz9 hs9 hb9 rfl (by omega) u4 nl.length (nl.map Value.string) (by rfl) A2x.rt.o1 ⟨V.heap.size, 0, none⟩ 1 1 [Value.string s] (by rfl) (by rfl) (World.news_of_block RX2) oc1 (by omega) b1 b2 A2x.rt.be.size _ rfl ?_; intro gg capa w1 hown hgrow hat hlt; have Q1 := A2x.app1 hown hgrow rfl hat; have ra1 := ka2.grown hgrow e1a; have rb1 := kb2.grown hgrow e1b; have HS1 := KS w1 ra1 rb1; have HS1a := fun ob => KS _ (ra1.alloc ob) (rb1.alloc ob); have NY := RY2.grown hgrow e4; clear hown hgrow hat)
          | (refine step_append_lies ((V.alloc (.cells #[Value.int .i64 kt, .slice An nt.length cn, .slice A4 pt.length c4] 25)).alloc (.cells #[Value.string s] 9)).drew (by rfl) (.tmp 38) (.tmp 41) 22 (by rfl) W0.heap.size 9 i9 _ 1 16 Tryz.underlying22 hi9 hz9 hs9 hb9 rfl (by omega) u4 nl.length (nl.map Value.string) (by rfl) A3x.rt.o1 ⟨V.heap.size + 1, 0, none⟩ 1 1 [Value.string s] (by rfl) (by rfl) (World.news_of_block RX3) oc1 (by omega) b1 b2 A3x.rt.be.size _ rfl ?_; intro gg capa w1 hown hgrow hat hlt; have Q1 := A3x.app1 hown hgrow rfl hat; have ra1 := ka3.grown hgrow e1a; have rb1 := kb3.grown hgrow e1b; have HS1 := KS w1 ra1 rb1; have HS1a := fun ob => KS _ (ra1.alloc ob) (rb1.alloc ob); have NY := RY3.grown hgrow e3; clear hown hgrow hat)
          | (refine step_append_lies (w1.alloc (.cells #[Value.int .i64 kt, .slice An nt.length cn, .slice A4 pt.length c4] 25)) (by rfl) (.tmp 43) (.tmp 45) 23 (by rfl) W0.heap.size 25 iT _ 3 56 Tryz.underlying23 hiT hzT hsT hbT rfl (by omega) u5 tl.length cs (by rfl) (Q1.below (bel1 w1 _)).rt.o2 ⟨w1.heap.size, 0, none⟩ 1 1 (#[Value.int .i64 kt, .slice An nt.length cn, .slice A4 pt.length c4] : Array Value).toList (by rfl) (by rfl) (World.news_of_block (RowB.new w1 25 #[Value.int .i64 kt, .slice An nt.length cn, .slice A4 pt.length c4])) oc2 (by omega) b3 b4 (Q1.below (bel1 w1 _)).rt.be.size _ rfl ?_; intro gc capb w2x hown2 hgrow2 hat2 hlt2; have Q2 := (Q1.below (bel1 w1 _)).app2 hown2 hgrow2 rfl hat2; have ra2 := RowB.grown (ra1.alloc _) hgrow2 e2a; have rb2 := RowB.grown (rb1.alloc _) hgrow2 e2b; have HS2 := KS w2x ra2 rb2; clear hown2 hgrow2 hat2)
          | (refine step_append_lies w1 (by rfl) (.tmp 43) (.tmp 45) 23 (by rfl) W0.heap.size 25 iT _ 3 56 Tryz.underlying23 hiT hzT hsT hbT rfl (by omega) u5 tl.length cs (by rfl) Q1.rt.o2 ⟨V.heap.size + 1, 0, none⟩ 1 1 (#[Value.int .i64 kt, .slice An nt.length cn, .slice A4 pt.length c4] : Array Value).toList (by rfl) (by rfl) (World.news_of_block NY) oc2 (by omega) b3 b4 Q1.rt.be.size _ rfl ?_; intro gc capb w2x hown2 hgrow2 hat2 hlt2; have Q2 := Q1.app2 hown2 hgrow2 rfl hat2; have ra2 := RowB.grown ra1 hgrow2 e2a; have rb2 := RowB.grown rb1 hgrow2 e2b; have HS2 := KS w2x ra2 rb2; clear hown2 hgrow2 hat2)
          | (refine step_append_lies w1 (by rfl) (.tmp 43) (.tmp 45) 23 (by rfl) W0.heap.size 25 iT _ 3 56 Tryz.underlying23 hiT hzT hsT hbT rfl (by omega) u5 tl.length cs (by rfl) Q1.rt.o2 ⟨V.heap.size, 0, none⟩ 1 1 (#[Value.int .i64 kt, .slice An nt.length cn, .slice A4 pt.length c4] : Array Value).toList (by rfl) (by rfl) (World.news_of_block NY) oc2 (by omega) b3 b4 Q1.rt.be.size _ rfl ?_; intro gc capb w2x hown2 hgrow2 hat2 hlt2; have Q2 := Q1.app2 hown2 hgrow2 rfl hat2; have ra2 := RowB.grown ra1 hgrow2 e2a; have rb2 := RowB.grown rb1 hgrow2 e2b; have HS2 := KS w2x ra2 rb2; clear hown2 hgrow2 hat2)
          | fail)
      all_goals
        have HR2 := Lib.hid Q2
        clear HS0 HSA HSB HS1 HS1a HS2 KS ka1 ka2 ka3 kb1 kb2 kb3 A1 A2x A3x RX1 RX2 RX3 RY2 RY3 Q1 Q2
        go_wp2_with fail
        go_roundg (n - j)
        case measure => omega
        case rel => exact ⟨j, nl ++ [s], tl ++ [Ty.mk kt nt pt], _, by rw [hj]; go_num, by omega, by omega, HJL.out.1, HJL.out.2, HR2, HSZ2, HEQ2⟩
    · have hil : ¬ (i : Int) < (n : Int) := by omega
      obtain rfl : i = n := by omega
      have HE2 : Hid (R = recEnd (0, nl, tl)) := by
        unfold Hid
        rw [HEQ.out, Fo.drop_end k i (by rw [← HN.out]; exact Nat.le_refl _)]
        simp [tri, fin]
      obtain ⟨An, cn, A4, c4, e1, e2, hnv, htv⟩ := HRT.out.out HSZ.out
      rw [hnl] at e1
      rw [htl] at e2
      subst e1 e2
      have hcr := record_any wr nl tl (fun g => W0.heap.size ≤ g) An cn A4 c4 hnv htv (by omega)
      rw [hnl, htl] at hcr
      have CR := Lib.hid hcr
      have HNL : Hid (nl.length = tl.length) := hnl.trans htl.symm
      clear hnv htv HEQ HI HWK HRT hi hnl htl hcr
      go_wp2_with fail
      refine CR.out.mono ?_
      rintro e w2 ⟨t, An', cn', A', c', z, rfl, hti, hb2, hcase⟩
      have hRz : R = (z, t) := by
        rw [HE2.out]
        unfold recEnd
        rw [if_neg (by simp)]
        rcases hcase with ⟨_, h, _⟩ | ⟨rfl, _, h, rfl⟩ | ⟨rfl, _, h, h2⟩
        · exact absurd HNL.out h
        · rw [if_neg h]; rfl
        · rw [if_pos h, mkRec_eq h2]
      have Y2 := Lib.hid (Y0.out.below hb2 Y0.out.lt)
      have y2 := Y2.out.cell
      have y2t := Y2.out.thaw
      have HB2 := Lib.hid (HBw.out.trans (hb2.mono HBw.out.size))
      have HTI := Lib.hid hti
      have hw0 := HW0.out
      have hww : W0.heap.size ≤ wr.heap.size := by
        have := Y0.out.lt
        omega
      have HWW := Lib.hid hww
      clear hti hb2 hcase CR hw0 hww
      subst hRz
      go_wp2_with fail
      refine bodyPost_ret (v := .tuple #[tv t An' cn' A' c', .int .i64 z]) ?_ rfl ⟨An', cn', A', c', rfl, HTI.out.keep (by simp [World.setCell]) (fun g hg hl => ?_), below_put3 HB2.out (Nat.le_refl _) _ _ _⟩
      · simp [results, Tryz.results100, go_sem, y2]
        try first | rfl | exact ⟨rfl, rfl⟩
      · have h0 := HW0.out
        have h1 := HWW.out
        have hx : g ≠ w.heap.size := by omega
        exact ⟨(Below.heap_setCell _ _ _ g hx).trans ((Below.heap_setCell _ _ _ g hx).trans (Below.heap_setCell _ _ _ g hx)), by omega⟩
end Tm
end Go.Proofs.YtifkjngclkklfaaGreatDoor
