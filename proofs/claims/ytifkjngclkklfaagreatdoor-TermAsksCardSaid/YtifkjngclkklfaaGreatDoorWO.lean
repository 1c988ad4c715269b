/- Contracts: the record of labels and parts, by the program. -/
import Derived.Test.YtifkjngclkklfaaGreatDoorMGj
import Derived.Test.YtifkjngclkklfaaGreatDoorMGn
import Derived.Test.YtifkjngclkklfaaGreatDoorMGo
import Derived.Deep.RegionHeld3
import Derived.Deep.AppendLies
import Derived.Deep.CutRange
import Derived.BigQuiet
namespace Go.Proofs.YtifkjngclkklfaaGreatDoor
open Go.RowKit Go.Op
namespace Tm
set_option maxHeartbeats 8000000 in
set_option maxRecDepth 100000 in
theorem record_any (w : World) (ns : List ByteArray) (ps : List Ty) (P : Nat → Prop) (An : Option Addr) (cn : Nat) (A : Option Addr) (c : Nat) (hN : NV w P ns An cn) (hT : TV w P ps A c) (hl : ns.length ≤ 1000001) :
    Calls Tryz.prog 26 #[.slice An ns.length cn, .slice A ps.length c] w (RecQ P ns ps w) := by
  have b1 : Below w.heap.size w (w.alloc (.cells tzc 25)) := bel1 w _
  have R0 := Lib.hid (RowB.new w 25 tzc)
  have HB1 := Lib.hid b1
  by_cases he : ns.length = ps.length
  case neg =>
    have HE := Lib.hid he
    have r0 := R0.out.cell
    have r0t := R0.out.thaw
    generalize hn : ns.length = n at *
    generalize hm : ps.length = m at *
    have he1 : ¬ (n : Int) = (m : Int) := by omega
    have HN := Lib.hid hn
    have HM := Lib.hid hm
    clear hN hT hl b1 he hn hm
    go_enter Tryz.func26, Tryz.ntmps26
    go_wp2_with fail
    refine bodyPost_ret (v := .tuple #[tz, .int .i64 1]) ?_ rfl (RecQ.none HB1.out (.inl ⟨rfl, by rw [HN.out, HM.out]; exact HE.out⟩))
    simp [results, Tryz.results26, go_sem, r0]
    try first | rfl | exact ⟨rfl, rfl⟩
  case pos =>
    rw [← he]
    have b2 : Below (w.alloc (.cells tzc 25)).heap.size (w.alloc (.cells tzc 25)) _ := bel1 _ (.cells #[.int .i64 3, .slice none 0 0, .slice none 0 0] 25)
    obtain ⟨W0, hW0⟩ : ∃ W0, W0 = (w.alloc (.cells tzc 25)).alloc (.cells #[.int .i64 3, .slice none 0 0, .slice none 0 0] 25) := ⟨_, rfl⟩
    have HB0 : Hid (Below w.heap.size w W0) := by
      rw [hW0]
      exact b1.trans (b2.mono b1.size)
    have X0 : Hid (RowB W0 w.heap.size 25 tzc) := by
      rw [hW0]
      exact R0.out.alloc _
    have X1 : Hid (RowB W0 (w.heap.size + 1) 25 #[.int .i64 3, .slice none 0 0, .slice none 0 0]) := by
      have := RowB.new (w.alloc (.cells tzc 25)) 25 #[.int .i64 3, .slice none 0 0, .slice none 0 0]
      rw [hW0]
      unfold Hid
      simpa using this
    have C := Lib.hid (rising_all W0 ns P An cn (hN.below HB0.out) hl)
    have HE := Lib.hid he
    have HNA := Lib.hid hN
    have HTA := Lib.hid hT
    obtain ⟨n, hn⟩ : ∃ n, n = ns.length := ⟨_, rfl⟩
    rw [← hn] at C ⊢
    have HN := Lib.hid hn
    have hn1 : n ≤ 1000001 := by omega
    clear hN hT hl b1 b2 he hn R0 HB1
    go_enter Tryz.func26, Tryz.ntmps26
    go_wp2_with fail
    rw [← hW0]
    clear hW0
    refine C.out.mono ?_
    rintro e W ⟨H, pl, rfl, hpl, hH0, hH1, hcell, hb1⟩
    have HB := Lib.hid (HB0.out.trans (hb1.mono HB0.out.size))
    have Y0 := Lib.hid (X0.out.below hb1 X0.out.lt)
    have Y1 := Lib.hid (X1.out.below hb1 X1.out.lt)
    have HWs : Hid (w.heap.size + 1 < H) := Nat.lt_of_lt_of_le X1.out.lt hH0
    have hTW : Hid (w.heap.size + 1 < W.heap.size) := Nat.lt_trans HWs.out hH1
    have HPL := Lib.hid hpl
    have HC := Lib.hid hcell
    have HH1 := Lib.hid hH1
    have HNW : Hid (NV W (fun g => P g ∧ g < w.heap.size) ns An cn) := HNA.out.low.below HB.out
    have HTW : Hid (TV W (fun g => P g ∧ g < w.heap.size) ps A c) := HTA.out.low.below HB.out
    have hlen : ns.length = n := HN.out.symm
    rw [hlen]
    clear hpl hH0 hH1 hcell hb1 C X0 X1 HB0 hlen
    go_wp2_with fail
    go_loopg [19] (n + 1) (fun kx s19 wr => ∃ i : Nat, s19 = .int .i64 i ∧ n - i ≤ kx ∧ i ≤ n ∧ Hid (riseB ((pl.take i).map (nth ns)) = true) ∧ Hid (∃ v1 v2 cs, RS W wr (w.heap.size + 1) (fun g => P g ∧ g < w.heap.size) v1 v2 ((pl.take i).map (nth ns)) ((pl.take i).map (nthT ps)) cs ∧ RowB wr (w.heap.size + 1) 25 #[.int .i64 3, v1, v2]))
    case atStart => exact ⟨0, rfl, by omega, by omega, by simp [Hid, riseB], .slice none 0 0, .slice none 0 0, [], RS.start _ _ _, Y1.out⟩
    case round =>
      obtain ⟨i, rfl, hkx, hin, HQ, v1, v2, cs, hrs, hrow⟩ := hrel
      have HRS := Lib.hid hrs
      have HROW := Lib.hid hrow
      clear hrs hrow
      by_cases hi : i < n
      · have hil : (i : Int) < (n : Int) := by omega
        obtain ⟨p, hp⟩ : ∃ p, pl[i]? = some p := get_lt (by rw [HPL.out.len, ← HN.out]; exact hi)
        have hpm : p < ns.length := (HPL.out.mem p).1 (List.mem_of_getElem? hp)
        have hpl : (p : Int) < (n : Int) := by have := HN.out; omega
        obtain ⟨g0, o0, hA0, hP0, hg0, y0, hz0⟩ := HNW.out.nth (nth_some hpm)
        obtain ⟨g, o, Bn, dn, B, d, hA1, hP1, hg1, hti, u0, u1, u2⟩ := HTW.out.nth (nthT_some (i := p) (by rw [← HE.out]; exact hpm))
        have zc : wr.cell? ⟨H, i, none⟩ = some (.int .i64 p) := (HRS.out.fr.cell (p := ⟨H, i, none⟩) HH1.out (by show H ≠ w.heap.size + 1; have := HWs.out; omega)).trans (HC.out i p hp)
        have hq1 : Hid (g0 < W.heap.size ∧ g0 ≠ w.heap.size + 1 ∧ g < W.heap.size ∧ g ≠ w.heap.size + 1) := ⟨hg0, by have := hP0.2; omega, hg1, by have := hP1.2; omega⟩
        have HF : Hid (∀ V, Fr (w.heap.size + 1) W.heap.size W V → V.cell? ⟨g0, o0 + p, none⟩ = some (.string (nth ns p)) ∧ V.cell? ⟨g, o + p * 3, none⟩ = some (.int .i64 (nthT ps p).kind) ∧ V.cell? ⟨g, o + p * 3 + 1, none⟩ = some (.slice Bn (nthT ps p).names.length dn) ∧ V.cell? ⟨g, o + p * 3 + 2, none⟩ = some (.slice B (nthT ps p).parts.length d)) := fun V hf =>
          ⟨(hf.cell (p := ⟨g0, o0 + p, none⟩) hq1.out.1 hq1.out.2.1).trans y0, (hf.cell (p := ⟨g, o + p * 3, none⟩) hq1.out.2.2.1 hq1.out.2.2.2).trans u0, (hf.cell (p := ⟨g, o + p * 3 + 1, none⟩) hq1.out.2.2.1 hq1.out.2.2.2).trans u1, (hf.cell (p := ⟨g, o + p * 3 + 2, none⟩) hq1.out.2.2.1 hq1.out.2.2.2).trans u2⟩
        obtain ⟨y0', _⟩ := HF.out wr HRS.out.fr
        have HTI : Hid (TI W (fun g => (P g ∧ g < w.heap.size) ∧ g < W.heap.size ∧ g ≠ w.heap.size + 1) (nthT ps p) Bn dn B d) := hti.keep (Nat.le_refl _) fun g hg hl => ⟨rfl, hg, hl, by have := hg.2; omega⟩
        have HP := Lib.hid hp
        subst hA0 hA1
        obtain ⟨s, hs⟩ : ∃ s, s = nth ns p := ⟨_, rfl⟩
        obtain ⟨t, ht⟩ : ∃ t, t = nthT ps p := ⟨_, rfl⟩
        rw [← hs] at y0' HF
        rw [← ht] at HF HTI
        have HS := Lib.hid hs
        have HT := Lib.hid ht
        have z1 := HROW.out.cell
        clear hp hpm hP0 hg0 y0 hz0 hP1 hg1 hti u0 u1 u2 hs ht
        go_upto_region 7 with fail
        go_cut [38] from 24 to 37 (fun s38 wx => ∃ b : Bool, s38 = .bool b ∧ Hid (∃ v1 v2 cs, RS W wx (w.heap.size + 1) (fun g => P g ∧ g < w.heap.size) v1 v2 ((pl.take i).map (nth ns)) ((pl.take i).map (nthT ps)) cs ∧ RowB wx (w.heap.size + 1) 25 #[.int .i64 3, v1, v2]) ∧ Hid (b = true → ¬ ns.Nodup) ∧ Hid (b = false → riseB ((pl.take (i + 1)).map (nth ns)) = true))
        case first =>
          by_cases h0 : i = 0
          · subst h0
            have HX : Hid (riseB ((pl.take (0 + 1)).map (nth ns)) = true) := by
              unfold Hid
              rw [take_next (nth ns) HP.out]
              rfl
            go_quiet (fail)
            go_wp2_with fail
            go_meet
            exact ⟨false, rfl, ⟨v1, v2, cs, HRS.out.drewN _, HROW.out⟩, (fun h => by cases h), fun _ => HX.out⟩
          · obtain ⟨j, hj⟩ : ∃ j, j + 1 = i := ⟨i - 1, by omega⟩
            obtain ⟨q, hq⟩ : ∃ q, pl[j]? = some q := get_lt (by rw [HPL.out.len, ← HN.out]; omega)
            have hlx : ((pl.take i).map (nth ns)).length = i := by
              rw [List.length_map, List.length_take, HPL.out.len, ← HN.out]; omega
            have ho1 := HRS.out.o1
            rw [hlx] at ho1
            obtain ⟨gv, capv, hv, _, hgv⟩ := ho1.form (by omega)
            have zz := ho1
            rw [hv] at zz
            have hrow9 := zz.cellAt j (by omega)
            have hq2 : ((pl.take i).map (nth ns)).map Value.string = ((pl.take j).map (nth ns)).map Value.string ++ [.string (nth ns q)] := by
              rw [← hj, take_next (nth ns) hq]; simp
            have hlj : (((pl.take j).map (nth ns)).map Value.string).length = j := by
              rw [List.length_map, List.length_map, List.length_take, HPL.out.len, ← HN.out]; omega
            rw [hq2, List.getElem?_append_right (by omega), hlj] at hrow9
            simp only [Nat.sub_self, List.getElem?_cons_zero] at hrow9
            have HX : Hid (nth ns q ≠ s → riseB ((pl.take (i + 1)).map (nth ns)) = true) := by
              intro hne
              rw [take_next (nth ns) HP.out]
              refine rise_snoc HQ.out fun y hy => ?_
              have e2 := hq2
              rw [← hj, take_next (nth ns) hq] at hy
              obtain rfl : nth ns q = y := by simpa using hy
              have hp' := HP.out
              rw [← hj] at hp'
              exact ris_next HPL.out hq hp' (by rw [← HS.out]; exact hne)
            have HD : Hid (nth ns q = s → ¬ ns.Nodup) := fun he => by
              have hp' := HP.out
              rw [← hj] at hp'
              exact ris_dup HPL.out hq hp' (by rw [← HS.out]; exact he)
            obtain ⟨x, hx⟩ : ∃ x, x = nth ns q := ⟨_, rfl⟩
            rw [← hx] at hrow9 HX HD
            have h0i : 0 < i := by omega
            have hgt : decide (0 < i) = true := by simpa using h0i
            have t2 : (i : Int) - 1 = (j : Int) := by omega
            have r2 : IntKind.i64.wrap (j : Int) = (j : Int) := by rw [IntKind.wrap_i64]; omega
            have r3 : (j : Int) < (i : Int) := by omega
            have HRS2 := HRS
            have HROW2 := HROW
            subst hv
            clear ho1 zz hq2 hlj hlx hq hx HQ HRS HROW hj h0 hgv
            by_cases hxs : x = s
            · subst hxs
              go_quiet (fail)
              go_wp2_with fail
              go_meet
              exact ⟨true, rfl, ⟨_, v2, cs, HRS2.out.drewN _, HROW2.out⟩, (fun _ => HD.out (by first | trivial | rfl)), fun h => by cases h⟩
            · have HXS := Lib.hid hxs
              have hxd : (x.toList == s.toList) = false := by rw [beq_ba]; exact decide_eq_false hxs
              go_quiet (fail)
              go_wp2_with fail
              go_meet
              exact ⟨false, rfl, ⟨_, v2, cs, HRS2.out.drewN _, HROW2.out⟩, (fun h => by cases h), fun _ => HX.out HXS.out⟩
        case rest =>
        obtain ⟨b, rfl, hrr, HB1, HB2⟩ := hcut
        have HRR := Lib.hid hrr
        clear HRS HROW z1 y0' hrr v1 v2 cs
        obtain ⟨v1, v2, cs, hrs, hrow⟩ := HRR.out
        cases b
        case true =>
          have HND := Lib.hid (HB1.out rfl)
          have Y2 := Lib.hid (hrs.fr.row Y0.out (Nat.lt_trans (Nat.lt_succ_self _) hTW.out) (Nat.ne_of_lt (Nat.lt_succ_self _)))
          have HB2' : Hid (Below w.heap.size w wc) := HB.out.trans (hrs.fr.below (Nat.le_of_lt (Nat.lt_trans (Nat.lt_succ_self _) hTW.out)) (Nat.le_succ _))
          have z0 := Y2.out.cell
          have z0t := Y2.out.thaw
          clear hrs hrow HRR
          go_wp2_with fail
          refine bodyPost_ret (v := .tuple #[tz, .int .i64 40]) ?_ rfl (RecQ.none (below_put3 HB2'.out (Nat.le_refl _) _ _ _) (.inr ⟨rfl, HE.out, HND.out⟩))
          simp [results, Tryz.results26, go_sem, z0]
          try first | rfl | exact ⟨rfl, rfl⟩
        case false =>
        have HQ2 := Lib.hid (HB2.out rfl)
        clear HB1 HB2
        have HNL : Hid ((pl.take (i + 1)).map (nth ns) = (pl.take i).map (nth ns) ++ [s]) := by
          unfold Hid
          rw [take_next (nth ns) HP.out, HS.out]
        have HTL : Hid ((pl.take (i + 1)).map (nthT ps) = (pl.take i).map (nthT ps) ++ [t]) := by
          unfold Hid
          rw [take_next (nthT ps) HP.out, HT.out]
        have hln : ((pl.take i).map (nth ns)).length ≤ 1000001 ∧ ((pl.take i).map (nthT ps)).length ≤ 1000001 := by
          simp only [List.length_map, List.length_take]
          omega
        obtain ⟨nl, hnl⟩ : ∃ nl, nl = (pl.take i).map (nth ns) := ⟨_, rfl⟩
        obtain ⟨tl, htl⟩ : ∃ tl, tl = (pl.take i).map (nthT ps) := ⟨_, rfl⟩
        rw [← hnl] at HNL hrs hln
        rw [← htl] at HTL hrs hln
        obtain ⟨hln1, hln2⟩ := hln
        have HCUT : Hid (∀ wx, (∃ v1 v2 cs, RS W wx (w.heap.size + 1) (fun g => P g ∧ g < w.heap.size) v1 v2 (nl ++ [s]) (tl ++ [t]) cs ∧ RowB wx (w.heap.size + 1) 25 #[.int .i64 3, v1, v2]) → ∃ v1 v2 cs, RS W wx (w.heap.size + 1) (fun g => P g ∧ g < w.heap.size) v1 v2 ((pl.take (i + 1)).map (nth ns)) ((pl.take (i + 1)).map (nthT ps)) cs ∧ RowB wx (w.heap.size + 1) 25 #[.int .i64 3, v1, v2]) := by
          intro wx h
          rw [HNL.out, HTL.out]
          exact h
        have hTl := hTW.out
        obtain ⟨kt, nt, pt⟩ := t
        simp only [kind_mk, names_mk, parts_mk] at HF
        clear hnl htl HNL HTL HP HS HT
        obtain ⟨j, hj⟩ : ∃ j, j = i + 1 := ⟨_, rfl⟩
        rw [← hj] at HCUT HQ2
        go_upto_region 9 with fail
        obtain ⟨i9, hi9, hz9, hs9, hb9⟩ := info_parts info9
        obtain ⟨iT, hiT, hzT, hsT, hbT⟩ := info_parts infoT
        have hsz := hrs.fr.size
        have hDs : wc.drew.heap.size = wc.heap.size := rfl
        have A0 : RS W wc.drew (w.heap.size + 1) (fun g => P g ∧ g < w.heap.size) v1 v2 nl tl cs := hrs.drew
        have RT0 : RowB wc.drew (w.heap.size + 1) 25 #[.int .i64 3, v1, v2] := hrow
        have zT0 := RT0.cell
        have e1 : (some (w.heap.size + 1) : Option Nat) ≠ v1.ownBlock := fun e => by have := (hrs.o1.lt _ e.symm).1; omega
        have e2 : (some (w.heap.size + 1) : Option Nat) ≠ v2.ownBlock := fun e => by have := (hrs.o2.lt _ e.symm).1; omega
        have e3 : (some wc.heap.size : Option Nat) ≠ v1.ownBlock := fun e => by have := (hrs.o1.lt _ e.symm).2; omega
        have e4 : (some (wc.heap.size + 1) : Option Nat) ≠ v1.ownBlock := fun e => by have := (hrs.o1.lt _ e.symm).2; omega
        have HS0 := HF.out _ A0.fr
        have HSA : ∀ ob, ((wc.alloc ob).drew.cell? ⟨g0, o0 + p, none⟩ = some (.string s) ∧ (wc.alloc ob).drew.cell? ⟨g, o + p * 3, none⟩ = some (.int .i64 kt) ∧ (wc.alloc ob).drew.cell? ⟨g, o + p * 3 + 1, none⟩ = some (.slice Bn nt.length dn) ∧ (wc.alloc ob).drew.cell? ⟨g, o + p * 3 + 2, none⟩ = some (.slice B pt.length d)) := fun ob => HF.out _ (hrs.alloc ob).drew.fr
        have HSB : ∀ ob oc, (((wc.alloc ob).alloc oc).drew.cell? ⟨g0, o0 + p, none⟩ = some (.string s) ∧ ((wc.alloc ob).alloc oc).drew.cell? ⟨g, o + p * 3, none⟩ = some (.int .i64 kt) ∧ ((wc.alloc ob).alloc oc).drew.cell? ⟨g, o + p * 3 + 1, none⟩ = some (.slice Bn nt.length dn) ∧ ((wc.alloc ob).alloc oc).drew.cell? ⟨g, o + p * 3 + 2, none⟩ = some (.slice B pt.length d)) := fun ob oc => HF.out _ ((hrs.alloc ob).alloc oc).drew.fr
        have A1 : RS W (wc.alloc (.cells #[Value.string s] 9)).drew (w.heap.size + 1) (fun g => P g ∧ g < w.heap.size) v1 v2 nl tl cs := (hrs.alloc _).drew
        have RT1 : RowB (wc.alloc (.cells #[Value.string s] 9)).drew (w.heap.size + 1) 25 #[.int .i64 3, v1, v2] := hrow.alloc _
        have zT1 := RT1.cell
        have A2 : RS W ((wc.alloc (.cells #[Value.string s] 9)).alloc (.cells #[Value.int .i64 kt, .slice Bn nt.length dn, .slice B pt.length d] 25)).drew (w.heap.size + 1) (fun g => P g ∧ g < w.heap.size) v1 v2 nl tl cs := ((hrs.alloc _).alloc _).drew
        have RT2 : RowB ((wc.alloc (.cells #[Value.string s] 9)).alloc (.cells #[Value.int .i64 kt, .slice Bn nt.length dn, .slice B pt.length d] 25)).drew (w.heap.size + 1) 25 #[.int .i64 3, v1, v2] := (hrow.alloc _).alloc _
        have zT2 := RT2.cell
        have A3 : RS W ((wc.alloc (.cells #[Value.int .i64 kt, .slice Bn nt.length dn, .slice B pt.length d] 25)).alloc (.cells #[Value.string s] 9)).drew (w.heap.size + 1) (fun g => P g ∧ g < w.heap.size) v1 v2 nl tl cs := ((hrs.alloc _).alloc _).drew
        have RT3 : RowB ((wc.alloc (.cells #[Value.int .i64 kt, .slice Bn nt.length dn, .slice B pt.length d] 25)).alloc (.cells #[Value.string s] 9)).drew (w.heap.size + 1) 25 #[.int .i64 3, v1, v2] := (hrow.alloc _).alloc _
        have zT3 := RT3.cell
        have RT4 : RowB (wc.alloc (.cells #[Value.int .i64 kt, .slice Bn nt.length dn, .slice B pt.length d] 25)).drew (w.heap.size + 1) 25 #[.int .i64 3, v1, v2] := hrow.alloc _
        have zT4 := RT4.cell
        have RX1 : RowB (wc.alloc (.cells #[Value.string s] 9)).drew wc.heap.size 9 #[Value.string s] := RowB.new wc 9 _
        have RX2 : RowB ((wc.alloc (.cells #[Value.string s] 9)).alloc (.cells #[Value.int .i64 kt, .slice Bn nt.length dn, .slice B pt.length d] 25)).drew wc.heap.size 9 #[Value.string s] := (RowB.new wc 9 #[Value.string s]).alloc _
        have RX3 : RowB ((wc.alloc (.cells #[Value.int .i64 kt, .slice Bn nt.length dn, .slice B pt.length d] 25)).alloc (.cells #[Value.string s] 9)).drew (wc.heap.size + 1) 9 #[Value.string s] := by
          have := RowB.new (wc.alloc (.cells #[Value.int .i64 kt, .slice Bn nt.length dn, .slice B pt.length d] 25)) 9 #[Value.string s]
          have h2 : (wc.alloc (.cells #[Value.int .i64 kt, .slice Bn nt.length dn, .slice B pt.length d] 25)).heap.size = wc.heap.size + 1 := by simp
          rw [h2] at this
          exact this
        have RY2 : RowB ((wc.alloc (.cells #[Value.string s] 9)).alloc (.cells #[Value.int .i64 kt, .slice Bn nt.length dn, .slice B pt.length d] 25)).drew (wc.heap.size + 1) 25 #[Value.int .i64 kt, .slice Bn nt.length dn, .slice B pt.length d] := by
          have := RowB.new (wc.alloc (.cells #[Value.string s] 9)) 25 #[Value.int .i64 kt, .slice Bn nt.length dn, .slice B pt.length d]
          have h2 : (wc.alloc (.cells #[Value.string s] 9)).heap.size = wc.heap.size + 1 := by simp
          rw [h2] at this
          exact this
        have RY3 : RowB ((wc.alloc (.cells #[Value.int .i64 kt, .slice Bn nt.length dn, .slice B pt.length d] 25)).alloc (.cells #[Value.string s] 9)).drew wc.heap.size 25 #[Value.int .i64 kt, .slice Bn nt.length dn, .slice B pt.length d] := (RowB.new wc 25 #[Value.int .i64 kt, .slice Bn nt.length dn, .slice B pt.length d]).alloc _
        have b1 : nl.length + 1 ≤ maxLen := by unfold maxLen; omega
        have b2 : (nl.length + 1) * 16 ≤ 140737488355328 := by omega
        have b3 : tl.length + 1 ≤ maxLen := by unfold maxLen; omega
        have b4 : (tl.length + 1) * 56 ≤ 140737488355328 := by omega
        have oc1 : ∀ u ∈ [Value.string s], u.oneCell' = true := by simp [Value.oneCell']
        have oc2 : ∀ u ∈ (#[Value.int .i64 kt, .slice Bn nt.length dn, .slice B pt.length d] : Array Value).toList, u.oneCell' = true := by simp [Value.oneCell']
        clear hrs hrow
        refine wp_region_G (S := SG (fun w' => w'.cell? ⟨g0, o0 + p, none⟩ = some (.string s) ∧ w'.cell? ⟨g, o + p * 3, none⟩ = some (.int .i64 kt) ∧ w'.cell? ⟨g, o + p * 3 + 1, none⟩ = some (.slice Bn nt.length dn) ∧ w'.cell? ⟨g, o + p * 3 + 2, none⟩ = some (.slice B pt.length d)) 7 (fun w' => w'.cell? ⟨w.heap.size + 1, 1, none⟩ = some v1) 15 (fun w' => w'.cell? ⟨w.heap.size + 1, 2, none⟩ = some v2)) (by kernel_rfl) ⟨HS0, fun _ => zT0 1, fun _ => zT0 2⟩ (fun hS => ?_)
        refine wpG_take0 (i := 0) (v := ?v1) rfl (by kernel_rfl) (by kernel_rfl) (by kernel_rfl) (by decide) (by decide) (fun _ _ _ h => h) hS (Or.inl ⟨by rfl, ?hy1⟩) ?rest1
        case hy1 => (intro w' hw; (try dsimp only at hw); obtain ⟨u0, u1, u2, u3⟩ := hw; go_simp; try with_reducible rfl)
        replace hS := SG.set (i := 0) (by decide) (by decide) hS
        simp only [Act.put, List.setIfInBounds_toArray, List.set_cons_zero, List.set_cons_succ]
        refine wpG_take1 (i := 1) (v := ?v2) rfl (by kernel_rfl) (by kernel_rfl) (by kernel_rfl) (by decide) (by decide) (by kernel_rfl) (by kernel_rfl) (fun _ _ _ h => h) hS (Or.inl ⟨by rfl, ?hy2⟩) ?rest2
        case hy2 => (intro w' hw; (try dsimp only at hw); obtain ⟨_, u9⟩ := hw; go_simp; try with_reducible rfl)
        replace hS := SG.set (i := 1) (by decide) (by decide) hS
        simp only [Act.put, List.setIfInBounds_toArray, List.set_cons_zero, List.set_cons_succ]
        refine wpG_take0 (i := 2) (v := ?v3) rfl (by kernel_rfl) (by kernel_rfl) (by kernel_rfl) (by decide) (by decide) (fun _ _ _ h => h) hS (Or.inl ⟨by rfl, ?hy3⟩) ?rest3
        case hy3 => (intro w' hw; (try dsimp only at hw); obtain ⟨u0, u1, u2, u3⟩ := hw; go_simp; try with_reducible rfl)
        replace hS := SG.set (i := 2) (by decide) (by decide) hS
        simp only [Act.put, List.setIfInBounds_toArray, List.set_cons_zero, List.set_cons_succ]
        refine wpG_take0 (i := 3) (v := ?v4) rfl (by kernel_rfl) (by kernel_rfl) (by kernel_rfl) (by decide) (by decide) (fun _ _ _ h => h) hS (Or.inl ⟨by rfl, ?hy4⟩) ?rest4
        case hy4 => (intro w' hw; (try dsimp only at hw); obtain ⟨u0, u1, u2, u3⟩ := hw; go_simp; try with_reducible rfl)
        replace hS := SG.set (i := 3) (by decide) (by decide) hS
        simp only [Act.put, List.setIfInBounds_toArray, List.set_cons_zero, List.set_cons_succ]
        refine wpG_take0 (i := 4) (v := ?v5) rfl (by kernel_rfl) (by kernel_rfl) (by kernel_rfl) (by decide) (by decide) (fun _ _ _ h => h) hS (Or.inl ⟨by rfl, ?hy5⟩) ?rest5
        case hy5 => (intro w' hw; (try dsimp only at hw); obtain ⟨u0, u1, u2, u3⟩ := hw; go_simp; try with_reducible rfl)
        replace hS := SG.set (i := 4) (by decide) (by decide) hS
        simp only [Act.put, List.setIfInBounds_toArray, List.set_cons_zero, List.set_cons_succ]
        refine wpG_take0 (i := 5) (v := ?v6) rfl (by kernel_rfl) (by kernel_rfl) (by kernel_rfl) (by decide) (by decide) (fun _ _ _ h => h) hS (Or.inl ⟨by rfl, ?hy6⟩) ?rest6
        case hy6 => (intro w' hw; (try dsimp only at hw); obtain ⟨u0, u1, u2, u3⟩ := hw; go_simp; try with_reducible rfl)
        replace hS := SG.set (i := 5) (by decide) (by decide) hS
        simp only [Act.put, List.setIfInBounds_toArray, List.set_cons_zero, List.set_cons_succ]
        refine wpG_take0 (i := 8) (v := ?v7) rfl (by kernel_rfl) (by kernel_rfl) (by kernel_rfl) (by decide) (by decide) (fun _ _ _ h => h) hS (Or.inl ⟨by rfl, ?hy7⟩) ?rest7
        case hy7 => (intro w' hw; (try dsimp only at hw); obtain ⟨u0, u1, u2, u3⟩ := hw; go_simp; try with_reducible rfl)
        replace hS := SG.set (i := 8) (by decide) (by decide) hS
        simp only [Act.put, List.setIfInBounds_toArray, List.set_cons_zero, List.set_cons_succ]
        refine wpG_take2 (i := 9) (v := ?v8) rfl (by kernel_rfl) (by kernel_rfl) (by kernel_rfl) (by decide) (by decide) (by kernel_rfl) (by kernel_rfl) (fun _ _ _ h => h) hS (Or.inl ⟨by rfl, ?hy8⟩) ?rest8
        case hy8 => (intro w' hw; (try dsimp only at hw); obtain ⟨_, u9⟩ := hw; go_simp; try with_reducible rfl)
        replace hS := SG.set (i := 9) (by decide) (by decide) hS
        simp only [Act.put, List.setIfInBounds_toArray, List.set_cons_zero, List.set_cons_succ]
        refine wpG_take0 (i := 10) (v := ?v9) rfl (by kernel_rfl) (by kernel_rfl) (by kernel_rfl) (by decide) (by decide) (fun _ _ _ h => h) hS (Or.inl ⟨by rfl, ?hy9⟩) ?rest9
        case hy9 => (intro w' hw; (try dsimp only at hw); obtain ⟨u0, u1, u2, u3⟩ := hw; go_simp; try with_reducible rfl)
        replace hS := SG.set (i := 10) (by decide) (by decide) hS
        simp only [Act.put, List.setIfInBounds_toArray, List.set_cons_zero, List.set_cons_succ]
        refine wpG_take0 (i := 11) (v := ?v10) rfl (by kernel_rfl) (by kernel_rfl) (by kernel_rfl) (by decide) (by decide) (fun _ _ _ h => h) hS (Or.inl ⟨by rfl, ?hy10⟩) ?rest10
        case hy10 => (intro w' hw; (try dsimp only at hw); obtain ⟨u0, u1, u2, u3⟩ := hw; go_simp; try with_reducible rfl)
        replace hS := SG.set (i := 11) (by decide) (by decide) hS
        simp only [Act.put, List.setIfInBounds_toArray, List.set_cons_zero, List.set_cons_succ]
        refine wpG_take0 (i := 12) (v := ?v11) rfl (by kernel_rfl) (by kernel_rfl) (by kernel_rfl) (by decide) (by decide) (fun _ _ _ h => h) hS (Or.inl ⟨by rfl, ?hy11⟩) ?rest11
        case hy11 => (intro w' hw; (try dsimp only at hw); obtain ⟨u0, u1, u2, u3⟩ := hw; go_simp; try with_reducible rfl)
        replace hS := SG.set (i := 12) (by decide) (by decide) hS
        simp only [Act.put, List.setIfInBounds_toArray, List.set_cons_zero, List.set_cons_succ]
        refine wpG_take0 (i := 13) (v := ?v12) rfl (by kernel_rfl) (by kernel_rfl) (by kernel_rfl) (by decide) (by decide) (fun _ _ _ h => h) hS (Or.inl ⟨by rfl, ?hy12⟩) ?rest12
        case hy12 => (intro w' hw; (try dsimp only at hw); obtain ⟨u0, u1, u2, u3⟩ := hw; go_simp; try with_reducible rfl)
        replace hS := SG.set (i := 13) (by decide) (by decide) hS
        simp only [Act.put, List.setIfInBounds_toArray, List.set_cons_zero, List.set_cons_succ]
        refine wpG_ready (rs := [6, 14]) (by kernel_rfl) (by simp) ?_
        refine RG.cons rfl rfl (fun K hK => ?_) (RG.cons rfl rfl (fun K hK => ?_) RG.nil)
        · go_simp
          refine hK.out _ _ ⟨HSA _, fun _ => zT1 1, fun _ => zT1 2⟩ (fun hS => ?_)
          clear hK K
          try simp only [Act.put, List.setIfInBounds_toArray, List.set_cons_zero, List.set_cons_succ]
          refine wpG_ready (rs := [7, 14]) (by kernel_rfl) (by simp) ?_
          refine RG.cons rfl rfl (fun K hK => ?_) (RG.cons rfl rfl (fun K hK => ?_) RG.nil)
          · refine wp_append_lies (wc.alloc (.cells #[Value.string s] 9)).drew (.tmp 41) (.tmp 46) 22 (by rfl) W.heap.size 9 i9 _ 1 16 Tryz.underlying22 hi9 hz9 hs9 hb9 rfl (by omega) v1 nl.length (nl.map Value.string) (by rfl) A1.o1 ⟨wc.heap.size, 0, none⟩ 1 1 [Value.string s] (by rfl) (by rfl) (World.news_of_block RX1) oc1 (by omega) b1 b2 (by simp; omega) _ rfl ?_
            intro gg capa w1 hown hgrow hat hlt
            have Q1 := A1.app1 hown hgrow
            have T1 := RT1.grown hgrow e1
            have zt1 := T1.cell
            have zt1a := fun o => (T1.alloc o).cell
            have HS1 := HF.out _ Q1.fr
            have HS1a := fun o => HF.out _ (Q1.alloc o).fr
            clear hown hgrow hat
            refine hK.out _ _ ⟨HS1, fun h => absurd (h : true = false) (by decide), fun _ => zt1 2⟩ (fun hS => ?_)
            clear hK K
            try simp only [Act.put, List.setIfInBounds_toArray, List.set_cons_zero, List.set_cons_succ]
            refine wpG_take0 (i := 16) (v := ?v13) rfl (by kernel_rfl) (by kernel_rfl) (by kernel_rfl) (by decide) (by decide) (fun _ _ _ h => h) hS (Or.inl ⟨by rfl, ?hy13⟩) ?rest13
            case hy13 => (intro w' hw; (try dsimp only at hw); obtain ⟨u0, u1, u2, u3⟩ := hw; go_simp; try with_reducible rfl)
            replace hS := SG.set (i := 16) (by decide) (by decide) hS
            simp only [Act.put, List.setIfInBounds_toArray, List.set_cons_zero, List.set_cons_succ]
            refine wpG_ready (rs := [14]) (by kernel_rfl) (by simp) ?_
            refine RG.cons rfl rfl (fun K hK => ?_) RG.nil
            go_simp
            refine hK.out _ _ ⟨HS1a _, fun h => absurd (h : true = false) (by decide), fun _ => zt1a _ 2⟩ (fun hS => ?_)
            clear hK K
            try simp only [Act.put, List.setIfInBounds_toArray, List.set_cons_zero, List.set_cons_succ]
            refine wpG_ready (rs := [15]) (by kernel_rfl) (by simp) ?_
            refine RG.cons rfl rfl (fun K hK => ?_) RG.nil
            refine wp_append_lies (w1.alloc (.cells #[Value.int .i64 kt, .slice Bn nt.length dn, .slice B pt.length d] 25)) (.tmp 49) (.tmp 54) 23 (by rfl) W.heap.size 25 iT _ 3 56 Tryz.underlying23 hiT hzT hsT hbT rfl (by omega) v2 tl.length cs (by rfl) (Q1.alloc _).o2 ⟨w1.heap.size, 0, none⟩ 1 1 (#[Value.int .i64 kt, .slice Bn nt.length dn, .slice B pt.length d] : Array Value).toList (by rfl) (by rfl) (World.news_of_block (RowB.new w1 25 #[Value.int .i64 kt, .slice Bn nt.length dn, .slice B pt.length d])) oc2 (by omega) b3 b4 (by have := Q1.fr.size; simp; omega) _ rfl ?_
            intro gb capb w2 hown2 hgrow2 hat2 hlt2
            have Q2 := (Q1.alloc _).app2 hown2 hgrow2 HTI.out
            have T2 := (T1.alloc _).grown hgrow2 e2
            have zt2 := T2.cell
            have zt2t := T2.thaw
            have HS2 := HF.out _ Q2.fr
            have HS3 := fun u => HF.out _ (Q2.put hTl 1 u).fr
            have HS4 := fun u u' => HF.out _ ((Q2.put hTl 1 u).put hTl 2 u').fr
            clear hown2 hgrow2 hat2
            refine hK.out _ _ ⟨HS2, fun h => absurd (h : true = false) (by decide), fun h => absurd (h : true = false) (by decide)⟩ (fun hS => ?_)
            clear hK K
            try simp only [Act.put, List.setIfInBounds_toArray, List.set_cons_zero, List.set_cons_succ]
            refine wpG_ready (rs := [17]) (by kernel_rfl) (by simp) ?_
            refine RG.cons rfl rfl (fun K hK => ?_) RG.nil
            go_simp
            refine hK.out _ _ ⟨HS3 _, fun h => absurd (h : true = false) (by decide), fun h => absurd (h : true = false) (by decide)⟩ (fun hS => ?_)
            clear hK K
            try simp only [Act.put, List.setIfInBounds_toArray, List.set_cons_zero, List.set_cons_succ]
            refine wpG_take0 (i := 18) (v := ?v14) rfl (by kernel_rfl) (by kernel_rfl) (by kernel_rfl) (by decide) (by decide) (fun _ _ _ h => h) hS (Or.inl ⟨by rfl, ?hy14⟩) ?rest14
            case hy14 => (intro w' hw; (try dsimp only at hw); obtain ⟨u0, u1, u2, u3⟩ := hw; go_simp; try with_reducible rfl)
            replace hS := SG.set (i := 18) (by decide) (by decide) hS
            simp only [Act.put, List.setIfInBounds_toArray, List.set_cons_zero, List.set_cons_succ]
            refine wpG_ready (rs := [19]) (by kernel_rfl) (by simp) ?_
            refine RG.cons rfl rfl (fun K hK => ?_) RG.nil
            go_simp
            refine hK.out _ _ ⟨HS4 _ _, fun h => absurd (h : true = false) (by decide), fun h => absurd (h : true = false) (by decide)⟩ (fun hS => ?_)
            clear hK K
            try simp only [Act.put, List.setIfInBounds_toArray, List.set_cons_zero, List.set_cons_succ]
            refine wpG_done (by kernel_rfl) ?_ _
            have HR2 := Lib.hid (HCUT.out _ ⟨_, _, _, (Q2.put hTl 1 _).put hTl 2 _, (T2.put 1 _).put 2 _⟩)
            clear zT0 zT1 zT2 zT3 zT4 zt1 zt1a zt2 zt2t A0 A1 A2 A3 RT0 RT1 RT2 RT3 RT4
            go_wp2_with fail
            go_roundg (n - j)
            case measure => omega
            case rel => exact ⟨j, by rw [hj]; go_num, by omega, by omega, HQ2, HR2.out⟩
          · go_simp
            refine hK.out _ _ ⟨HSB _ _, fun _ => zT2 1, fun _ => zT2 2⟩ (fun hS => ?_)
            clear hK K
            try simp only [Act.put, List.setIfInBounds_toArray, List.set_cons_zero, List.set_cons_succ]
            refine wpG_ready (rs := [7]) (by kernel_rfl) (by simp) ?_
            refine RG.cons rfl rfl (fun K hK => ?_) RG.nil
            refine wp_append_lies ((wc.alloc (.cells #[Value.string s] 9)).alloc (.cells #[Value.int .i64 kt, .slice Bn nt.length dn, .slice B pt.length d] 25)).drew (.tmp 41) (.tmp 46) 22 (by rfl) W.heap.size 9 i9 _ 1 16 Tryz.underlying22 hi9 hz9 hs9 hb9 rfl (by omega) v1 nl.length (nl.map Value.string) (by rfl) A2.o1 ⟨wc.heap.size, 0, none⟩ 1 1 [Value.string s] (by rfl) (by rfl) (World.news_of_block RX2) oc1 (by omega) b1 b2 (by simp; omega) _ rfl ?_
            intro gg capa w1 hown hgrow hat hlt
            have Q1 := A2.app1 hown hgrow
            have T1 := RT2.grown hgrow e1
            have zt1 := T1.cell
            have zt1a := fun o => (T1.alloc o).cell
            have HS1 := HF.out _ Q1.fr
            have HS1a := fun o => HF.out _ (Q1.alloc o).fr
            have NY := RY2.grown hgrow e4
            clear hown hgrow hat
            refine hK.out _ _ ⟨HS1, fun h => absurd (h : true = false) (by decide), fun _ => zt1 2⟩ (fun hS => ?_)
            clear hK K
            try simp only [Act.put, List.setIfInBounds_toArray, List.set_cons_zero, List.set_cons_succ]
            refine wpG_take0 (i := 16) (v := ?v15) rfl (by kernel_rfl) (by kernel_rfl) (by kernel_rfl) (by decide) (by decide) (fun _ _ _ h => h) hS (Or.inl ⟨by rfl, ?hy15⟩) ?rest15
            case hy15 => (intro w' hw; (try dsimp only at hw); obtain ⟨u0, u1, u2, u3⟩ := hw; go_simp; try with_reducible rfl)
            replace hS := SG.set (i := 16) (by decide) (by decide) hS
            simp only [Act.put, List.setIfInBounds_toArray, List.set_cons_zero, List.set_cons_succ]
            refine wpG_ready (rs := [15]) (by kernel_rfl) (by simp) ?_
            refine RG.cons rfl rfl (fun K hK => ?_) RG.nil
            refine wp_append_lies w1 (.tmp 49) (.tmp 54) 23 (by rfl) W.heap.size 25 iT _ 3 56 Tryz.underlying23 hiT hzT hsT hbT rfl (by omega) v2 tl.length cs (by rfl) Q1.o2 ⟨wc.heap.size + 1, 0, none⟩ 1 1 (#[Value.int .i64 kt, .slice Bn nt.length dn, .slice B pt.length d] : Array Value).toList (by rfl) (by rfl) (World.news_of_block NY) oc2 (by omega) b3 b4 Q1.fr.size _ rfl ?_
            intro gb capb w2 hown2 hgrow2 hat2 hlt2
            have Q2 := Q1.app2 hown2 hgrow2 HTI.out
            have T2 := T1.grown hgrow2 e2
            have zt2 := T2.cell
            have zt2t := T2.thaw
            have HS2 := HF.out _ Q2.fr
            have HS3 := fun u => HF.out _ (Q2.put hTl 1 u).fr
            have HS4 := fun u u' => HF.out _ ((Q2.put hTl 1 u).put hTl 2 u').fr
            clear hown2 hgrow2 hat2
            refine hK.out _ _ ⟨HS2, fun h => absurd (h : true = false) (by decide), fun h => absurd (h : true = false) (by decide)⟩ (fun hS => ?_)
            clear hK K
            try simp only [Act.put, List.setIfInBounds_toArray, List.set_cons_zero, List.set_cons_succ]
            refine wpG_ready (rs := [17]) (by kernel_rfl) (by simp) ?_
            refine RG.cons rfl rfl (fun K hK => ?_) RG.nil
            go_simp
            refine hK.out _ _ ⟨HS3 _, fun h => absurd (h : true = false) (by decide), fun h => absurd (h : true = false) (by decide)⟩ (fun hS => ?_)
            clear hK K
            try simp only [Act.put, List.setIfInBounds_toArray, List.set_cons_zero, List.set_cons_succ]
            refine wpG_take0 (i := 18) (v := ?v16) rfl (by kernel_rfl) (by kernel_rfl) (by kernel_rfl) (by decide) (by decide) (fun _ _ _ h => h) hS (Or.inl ⟨by rfl, ?hy16⟩) ?rest16
            case hy16 => (intro w' hw; (try dsimp only at hw); obtain ⟨u0, u1, u2, u3⟩ := hw; go_simp; try with_reducible rfl)
            replace hS := SG.set (i := 18) (by decide) (by decide) hS
            simp only [Act.put, List.setIfInBounds_toArray, List.set_cons_zero, List.set_cons_succ]
            refine wpG_ready (rs := [19]) (by kernel_rfl) (by simp) ?_
            refine RG.cons rfl rfl (fun K hK => ?_) RG.nil
            go_simp
            refine hK.out _ _ ⟨HS4 _ _, fun h => absurd (h : true = false) (by decide), fun h => absurd (h : true = false) (by decide)⟩ (fun hS => ?_)
            clear hK K
            try simp only [Act.put, List.setIfInBounds_toArray, List.set_cons_zero, List.set_cons_succ]
            refine wpG_done (by kernel_rfl) ?_ _
            have HR2 := Lib.hid (HCUT.out _ ⟨_, _, _, (Q2.put hTl 1 _).put hTl 2 _, (T2.put 1 _).put 2 _⟩)
            clear zT0 zT1 zT2 zT3 zT4 zt1 zt1a zt2 zt2t A0 A1 A2 A3 RT0 RT1 RT2 RT3 RT4
            go_wp2_with fail
            go_roundg (n - j)
            case measure => omega
            case rel => exact ⟨j, by rw [hj]; go_num, by omega, by omega, HQ2, HR2.out⟩
        · go_simp
          refine hK.out _ _ ⟨HSA _, fun _ => zT4 1, fun _ => zT4 2⟩ (fun hS => ?_)
          clear hK K
          try simp only [Act.put, List.setIfInBounds_toArray, List.set_cons_zero, List.set_cons_succ]
          refine wpG_ready (rs := [6]) (by kernel_rfl) (by simp) ?_
          refine RG.cons rfl rfl (fun K hK => ?_) RG.nil
          go_simp
          refine hK.out _ _ ⟨HSB _ _, fun _ => zT3 1, fun _ => zT3 2⟩ (fun hS => ?_)
          clear hK K
          try simp only [Act.put, List.setIfInBounds_toArray, List.set_cons_zero, List.set_cons_succ]
          refine wpG_ready (rs := [7]) (by kernel_rfl) (by simp) ?_
          refine RG.cons rfl rfl (fun K hK => ?_) RG.nil
          refine wp_append_lies ((wc.alloc (.cells #[Value.int .i64 kt, .slice Bn nt.length dn, .slice B pt.length d] 25)).alloc (.cells #[Value.string s] 9)).drew (.tmp 41) (.tmp 46) 22 (by rfl) W.heap.size 9 i9 _ 1 16 Tryz.underlying22 hi9 hz9 hs9 hb9 rfl (by omega) v1 nl.length (nl.map Value.string) (by rfl) A3.o1 ⟨wc.heap.size + 1, 0, none⟩ 1 1 [Value.string s] (by rfl) (by rfl) (World.news_of_block RX3) oc1 (by omega) b1 b2 (by simp; omega) _ rfl ?_
          intro gg capa w1 hown hgrow hat hlt
          have Q1 := A3.app1 hown hgrow
          have T1 := RT3.grown hgrow e1
          have zt1 := T1.cell
          have zt1a := fun o => (T1.alloc o).cell
          have HS1 := HF.out _ Q1.fr
          have HS1a := fun o => HF.out _ (Q1.alloc o).fr
          have NY := RY3.grown hgrow e3
          clear hown hgrow hat
          refine hK.out _ _ ⟨HS1, fun h => absurd (h : true = false) (by decide), fun _ => zt1 2⟩ (fun hS => ?_)
          clear hK K
          try simp only [Act.put, List.setIfInBounds_toArray, List.set_cons_zero, List.set_cons_succ]
          refine wpG_take0 (i := 16) (v := ?v17) rfl (by kernel_rfl) (by kernel_rfl) (by kernel_rfl) (by decide) (by decide) (fun _ _ _ h => h) hS (Or.inl ⟨by rfl, ?hy17⟩) ?rest17
          case hy17 => (intro w' hw; (try dsimp only at hw); obtain ⟨u0, u1, u2, u3⟩ := hw; go_simp; try with_reducible rfl)
          replace hS := SG.set (i := 16) (by decide) (by decide) hS
          simp only [Act.put, List.setIfInBounds_toArray, List.set_cons_zero, List.set_cons_succ]
          refine wpG_ready (rs := [15]) (by kernel_rfl) (by simp) ?_
          refine RG.cons rfl rfl (fun K hK => ?_) RG.nil
          refine wp_append_lies w1 (.tmp 49) (.tmp 54) 23 (by rfl) W.heap.size 25 iT _ 3 56 Tryz.underlying23 hiT hzT hsT hbT rfl (by omega) v2 tl.length cs (by rfl) Q1.o2 ⟨wc.heap.size, 0, none⟩ 1 1 (#[Value.int .i64 kt, .slice Bn nt.length dn, .slice B pt.length d] : Array Value).toList (by rfl) (by rfl) (World.news_of_block NY) oc2 (by omega) b3 b4 Q1.fr.size _ rfl ?_
          intro gb capb w2 hown2 hgrow2 hat2 hlt2
          have Q2 := Q1.app2 hown2 hgrow2 HTI.out
          have T2 := T1.grown hgrow2 e2
          have zt2 := T2.cell
          have zt2t := T2.thaw
          have HS2 := HF.out _ Q2.fr
          have HS3 := fun u => HF.out _ (Q2.put hTl 1 u).fr
          have HS4 := fun u u' => HF.out _ ((Q2.put hTl 1 u).put hTl 2 u').fr
          clear hown2 hgrow2 hat2
          refine hK.out _ _ ⟨HS2, fun h => absurd (h : true = false) (by decide), fun h => absurd (h : true = false) (by decide)⟩ (fun hS => ?_)
          clear hK K
          try simp only [Act.put, List.setIfInBounds_toArray, List.set_cons_zero, List.set_cons_succ]
          refine wpG_ready (rs := [17]) (by kernel_rfl) (by simp) ?_
          refine RG.cons rfl rfl (fun K hK => ?_) RG.nil
          go_simp
          refine hK.out _ _ ⟨HS3 _, fun h => absurd (h : true = false) (by decide), fun h => absurd (h : true = false) (by decide)⟩ (fun hS => ?_)
          clear hK K
          try simp only [Act.put, List.setIfInBounds_toArray, List.set_cons_zero, List.set_cons_succ]
          refine wpG_take0 (i := 18) (v := ?v18) rfl (by kernel_rfl) (by kernel_rfl) (by kernel_rfl) (by decide) (by decide) (fun _ _ _ h => h) hS (Or.inl ⟨by rfl, ?hy18⟩) ?rest18
          case hy18 => (intro w' hw; (try dsimp only at hw); obtain ⟨u0, u1, u2, u3⟩ := hw; go_simp; try with_reducible rfl)
          replace hS := SG.set (i := 18) (by decide) (by decide) hS
          simp only [Act.put, List.setIfInBounds_toArray, List.set_cons_zero, List.set_cons_succ]
          refine wpG_ready (rs := [19]) (by kernel_rfl) (by simp) ?_
          refine RG.cons rfl rfl (fun K hK => ?_) RG.nil
          go_simp
          refine hK.out _ _ ⟨HS4 _ _, fun h => absurd (h : true = false) (by decide), fun h => absurd (h : true = false) (by decide)⟩ (fun hS => ?_)
          clear hK K
          try simp only [Act.put, List.setIfInBounds_toArray, List.set_cons_zero, List.set_cons_succ]
          refine wpG_done (by kernel_rfl) ?_ _
          have HR2 := Lib.hid (HCUT.out _ ⟨_, _, _, (Q2.put hTl 1 _).put hTl 2 _, (T2.put 1 _).put 2 _⟩)
          clear zT0 zT1 zT2 zT3 zT4 zt1 zt1a zt2 zt2t A0 A1 A2 A3 RT0 RT1 RT2 RT3 RT4
          go_wp2_with fail
          go_roundg (n - j)
          case measure => omega
          case rel => exact ⟨j, by rw [hj]; go_num, by omega, by omega, HQ2, HR2.out⟩
      · have hil : ¬ (i : Int) < (n : Int) := by omega
        obtain rfl : i = n := by omega
        clear hi
        have Y2 := Lib.hid (HRS.out.fr.row Y0.out (Nat.lt_trans (Nat.lt_succ_self _) hTW.out) (Nat.ne_of_lt (Nat.lt_succ_self _)))
        have htk : pl.take i = pl := List.take_of_length_le (by rw [HPL.out.len]; exact Nat.le_of_eq HN.out.symm)
        have HQ1 := HQ.out
        have HR1 := HRS.out
        rw [htk] at HQ1 HR1
        have HREC := Lib.hid (ris_rec HPL.out HE.out HQ1)
        have HND := Lib.hid (ris_nodup HPL.out HQ1)
        obtain ⟨An', cn', A', c', e1, e2, hti⟩ := HR1.fin (fun s hs => by
          obtain ⟨p, hp, rfl⟩ := List.mem_map.1 hs
          exact HNA.out.2.1 _ (List.mem_of_getElem? (nth_some ((HPL.out.mem p).1 hp)))) W.heap.size (Nat.le_refl _) 3
        have HTI := Lib.hid hti
        have z0 := Y2.out.cell
        have z0t := Y2.out.thaw
        have z1 := HROW.out.cell
        have HB2 : Hid (Below w.heap.size w wr) := HB.out.trans (HR1.fr.below (Nat.le_of_lt (Nat.lt_trans (Nat.lt_succ_self _) hTW.out)) (Nat.le_succ _))
        subst e1 e2
        clear hti htk HQ1 HR1 HROW Y0 Y1
        go_wp2_with fail
        refine bodyPost_ret (v := .tuple #[.agg #[.int .i64 3, .slice An' (pl.map (nth ns)).length cn', .slice A' (pl.map (nthT ps)).length c'], .int .i64 0]) ?_ rfl ⟨.mk 3 (pl.map (nth ns)) (pl.map (nthT ps)), An', cn', A', c', 0, rfl, (HTI.out _ (fun g hg hne hp => ?_) (by simp [World.setCell]) hTW.out).mono (fun g hg => ?_), below_put3 HB2.out (Nat.le_refl _) _ _ _, .inr (.inr ⟨rfl, HE.out, HND.out, HREC.out⟩)⟩
        · simp [results, Tryz.results26, go_sem, z0]
          try first | rfl | exact ⟨rfl, rfl⟩
        · have hx : g ≠ w.heap.size := by
            have := hTW.out
            rcases hp with h | h
            · omega
            · have := h.2; omega
          exact (Below.heap_setCell _ _ _ g hx).trans ((Below.heap_setCell _ _ _ g hx).trans (Below.heap_setCell _ _ _ g hx))
        · have := hTW.out
          rcases hg with h | h
          · exact .inl h.1
          · exact .inr (by omega)
end Tm
end Go.Proofs.YtifkjngclkklfaaGreatDoor
