/- The law TermBack, walked. -/
import Derived.Test.YtifkjngclkklfaaGreatDoorMHe
import Derived.Test.YtifkjngclkklfaaGreatDoorMGy
import Derived.Test.YtifkjngclkklfaaGreatDoorMGz
import Derived.Test.YtifkjngclkklfaaGreatDoorMGh
import Derived.Test.YtifkjngclkklfaaGreatDoorMGp
import Derived.Test.YtifkjngclkklfaaGreatDoorMGr
namespace Go.Proofs.YtifkjngclkklfaaGreatDoor
open Go.RowKit Go.Op
namespace Tm
open Ps Pg
set_option maxHeartbeats 16000000 in
set_option maxRecDepth 100000 in
theorem tback_walk (w : World) (t : Ty) (P0 : Nat → Prop) (An : Option Addr) (cn : Nat) (A : Option Addr) (c : Nat) (h0 : TI w P0 t An cn A c) (s : ByteArray) (hs : (s.size : Int) ≤ 9223372036854775807) (hT : Tabs w) (hE : Errs w) :
    Calls Tryz.prog 5 #[tv t An cn A c, .string s] w fun e w' => e = .returned (.bool true) ∧ Below w.heap.size w w' := by
  have b1 := bel1 w (.cells (tarr t.kind An t.names.length cn A t.parts.length c) 25)
  obtain ⟨w1, hw1⟩ : ∃ w1, w1 = w.alloc (.cells (tarr t.kind An t.names.length cn A t.parts.length c) 25) := ⟨_, rfl⟩
  have R1 : RowB w1 w.heap.size 25 (tarr t.kind An t.names.length cn A t.parts.length c) := by rw [hw1]; exact RowB.new w 25 _
  rw [← hw1] at b1
  have HB0 := Lib.hid b1
  have R3 := Lib.hid R1
  have HT1 := Lib.hid (h0.below b1)
  have HT := Lib.hid hT
  have HE := Lib.hid hE
  have HSS := Lib.hid hs
  have e0 := hw1
  clear hw1 R1 b1 h0 hT hE hs
  have C1 := Lib.hid (light_any w1 t _ An cn A c HT1.out)
  obtain ⟨lt, hlt⟩ : ∃ l, l = t.light := ⟨_, rfl⟩
  rw [← hlt] at C1
  have HCT : Hid (lt = true → t.cnt ≤ 41000) := fun h => (light_cnt (hlt.symm.trans h)).1
  obtain ⟨kt, hkt⟩ : ∃ k, k = t.kind := ⟨_, rfl⟩
  obtain ⟨lnt, hnt⟩ : ∃ k, k = t.names.length := ⟨_, rfl⟩
  obtain ⟨lpt, hpt⟩ : ∃ k, k = t.parts.length := ⟨_, rfl⟩
  have KT : Hid (∀ An cn A c, tv t An cn A c = .agg #[.int .i64 kt, .slice An lnt cn, .slice A lpt c]) := fun _ _ _ _ => by rw [hkt, hnt, hpt]
  simp only [tarr, tv, ← hkt, ← hnt, ← hpt] at e0 R3 C1 ⊢
  clear hkt hnt hpt hlt
  have r3 := R3.out.cell
  rw [e0] at r3
  go_enter Tryz.func5, Tryz.ntmps5
  go_wp2_with fail
  rw [← e0]
  refine C1.out.mono ?_
  rintro e wa ⟨rfl, ha⟩
  have HXa := Lib.hid ha
  have HBa := Lib.hid (HB0.out.trans (ha.mono HB0.out.size))
  have R3a := Lib.hid (R3.out.below ha R3.out.lt)
  clear ha C1 r3 e0
  cases lt with
  | false =>
    go_wp2_with fail
    have CAa := Lib.hid (awake9_any _ (Tabs.step HT.out HBa.out) (HE.out.below HBa.out))
    go_wp2_with fail
    refine CAa.out.mono ?_
    rintro e w9a ⟨rfl, hb9a⟩
    have HB9a := Lib.hid (HBa.out.trans (hb9a.mono HBa.out.size))
    clear hb9a CAa
    go_wp2_with fail
    (first | go_ret | go_ret2)
    exact ⟨rfl, HB9a.out⟩
  | true =>
  have hct := HCT.out (by first | rfl | trivial)
  have HCT1 := Lib.hid hct
  have HTT : Hid (∀ w', Below wa.heap.size wa w' → TI w' P0 t An cn A c) := fun w' hb => (HT1.out.below HXa.out).below hb
  obtain ⟨rr, hrr⟩ : ∃ r, r = t.right := ⟨_, rfl⟩
  have HRR := Lib.hid hrr
  have C14 : Hid (Calls Tryz.prog 14 #[.agg #[.int .i64 kt, .slice An lnt cn, .slice A lpt c]] wa fun e w2 => e = .returned (.bool rr) ∧ Below wa.heap.size wa w2) := by
    unfold Hid
    rw [← KT.out, hrr]
    exact pright_any t (by omega) wa _ An cn A c (HTT.out wa (Below.refl _ _))
  have K16 : Hid (∀ w', Below wa.heap.size wa w' → Calls Tryz.prog 16 #[.agg #[.int .i64 kt, .slice An lnt cn, .slice A lpt c]] w' fun e w2 => e = .returned (.int .i64 t.depth) ∧ Below w'.heap.size w' w2) := fun w' hb => by rw [← KT.out]; exact pdepth_any t (by have := HCT1.out; omega) w' _ An cn A c (HTT.out w' hb)
  have K24 : Hid (t.right = true → ∀ w', Below wa.heap.size wa w' → Calls Tryz.prog 24 #[.agg #[.int .i64 kt, .slice An lnt cn, .slice A lpt c]] w' fun e w2 => e = .returned (.string (textS t)) ∧ Below w'.heap.size w' w2) := fun hr w' hb => by
    rw [← KT.out]
    exact text_any t (by have := HCT1.out; omega) (text_lim hr HCT1.out) w' _ An cn A c (HTT.out w' hb)
  obtain ⟨dt, hdt⟩ : ∃ x : Int, x = t.depth := ⟨_, rfl⟩
  rw [← hdt] at K16
  have HDT := Lib.hid hdt
  obtain ⟨tx, htx⟩ : ∃ tx, tx = textS t := ⟨_, rfl⟩
  rw [← htx] at K24
  have HTX := Lib.hid htx
  have r3 := R3a.out.cell
  clear HCT hct hrr hdt htx HT1 R3
  go_wp2_with fail
  refine C14.out.mono ?_
  rintro e wb ⟨rfl, hb⟩
  have HXb := Lib.hid hb
  have HBb := Lib.hid (HBa.out.trans (hb.mono HBa.out.size))
  have R3b := Lib.hid (R3a.out.below hb R3a.out.lt)
  clear hb C14 r3 R3a HXa
  cases rr with
  | false =>
    clear K16 K24 HTT
    go_wp2_with fail
    have CPA := tparse_all s HSS.out wb (Tabs.step HT.out HBb.out) (HE.out.below HBb.out)
    obtain ⟨rA, hrA⟩ : ∃ r, r = parseT s := ⟨_, rfl⟩
    rw [← hrA] at CPA
    have HRA := Lib.hid hrA
    have CQA := Lib.hid CPA
    clear CPA hrA
    obtain ⟨z, u⟩ := rA
    go_wp2_with fail
    refine CQA.out.mono ?_
    rintro e wpA ⟨Un, un, U, uc, rfl, hti, hbp⟩
    simp only at hti ⊢
    have HBpA := Lib.hid (HBb.out.trans (hbp.mono HBb.out.size))
    have bqA := bel1 wpA (.cells (tarr u.kind Un u.names.length un U u.parts.length uc) 25)
    obtain ⟨wqA, hwqA⟩ : ∃ wqA, wqA = wpA.alloc (.cells (tarr u.kind Un u.names.length un U u.parts.length uc) 25) := ⟨_, rfl⟩
    have RqA : Hid (RowB wqA wpA.heap.size 25 (tarr u.kind Un u.names.length un U u.parts.length uc)) := by rw [hwqA]; exact RowB.new wpA 25 _
    rw [← hwqA] at bqA
    have HTIqA := Lib.hid (hti.below bqA)
    have HBqA := Lib.hid (HBpA.out.trans (bqA.mono HBpA.out.size))
    obtain ⟨ku, hku⟩ : ∃ k, k = u.kind := ⟨_, rfl⟩
    obtain ⟨lnu, hnu⟩ : ∃ k, k = u.names.length := ⟨_, rfl⟩
    obtain ⟨lpu, hpu⟩ : ∃ k, k = u.parts.length := ⟨_, rfl⟩
    have KU : Hid (∀ An cn A c, tv u An cn A c = .agg #[.int .i64 ku, .slice An lnu cn, .slice A lpu c]) := fun _ _ _ _ => by rw [hku, hnu, hpu]
    simp only [tarr, tv, ← hku, ← hnu, ← hpu] at hwqA RqA ⊢
    have eqqA := hwqA
    clear hti hbp bqA hwqA hku hnu hpu CQA
    by_cases hz : z = 0
    case neg =>
      have hzb : (z == 0) = false := by rw [beq_eq_false_iff_ne]; exact hz
      go_wp2_with fail
      rw [← eqqA]
      have CAnA := Lib.hid (awake9_any _ (Tabs.step HT.out HBqA.out) (HE.out.below HBqA.out))
      go_wp2_with fail
      refine CAnA.out.mono ?_
      rintro e w9nA ⟨rfl, hb9nA⟩
      have HB9nA := Lib.hid (HBqA.out.trans (hb9nA.mono HBqA.out.size))
      clear hb9nA CAnA
      go_wp2_with fail
      (first | go_ret | go_ret2)
      exact ⟨rfl, HB9nA.out⟩
    case pos =>
    subst hz
    have hg := parse_good HRA.out.symm
    have HG := Lib.hid hg
    have C1 := pright_any u (by have := hg.2.2.2; omega) wqA _ Un un U uc HTIqA.out
    rw [hg.1, KU.out] at C1
    have C1h := Lib.hid C1
    have cq := RqA.out.cell
    rw [eqqA] at cq
    clear hg C1
    go_wp2_with fail
    rw [← eqqA]
    clear eqqA cq
    refine C1h.out.mono ?_
    rintro e wrA ⟨rfl, hbr⟩
    have HBrA := Lib.hid (HBqA.out.trans (hbr.mono HBqA.out.size))
    have RrA := Lib.hid (RqA.out.below hbr RqA.out.lt)
    have HTIrA := Lib.hid (HTIqA.out.below hbr)
    have hlu : u.text.length ≤ lim := by have h1 := text_le u HG.out.1; have h2 := HG.out.2.2.1; unfold lim; omega
    have HLU := Lib.hid hlu
    have K24 : Hid (∀ w', Below wrA.heap.size wrA w' → Calls Tryz.prog 24 #[.agg #[.int .i64 ku, .slice Un lnu un, .slice U lpu uc]] w' fun e w2 => e = .returned (.string (textS u)) ∧ Below w'.heap.size w' w2) := fun w' hb => by
      rw [← KU.out]
      exact text_any u (by have := HG.out.2.2.2; omega) HLU.out w' _ Un un U uc (HTIrA.out.below hb)
    have hxs : (textS u).data.toList = u.text := by unfold textS; rw [if_pos HG.out.1]
    obtain ⟨tx, htx⟩ : ∃ tx, tx = textS u := ⟨_, rfl⟩
    rw [← htx] at K24 hxs
    have HXS := Lib.hid hxs
    have C2 := Lib.hid (K24.out wrA (Below.refl _ _))
    have cr := RrA.out.cell
    clear hbr hlu hxs htx C1h HTIqA RqA HBqA
    go_wp2_with fail
    refine C2.out.mono ?_
    rintro e wsA ⟨rfl, hbs⟩
    have HBsA := Lib.hid (HBrA.out.trans (hbs.mono HBrA.out.size))
    have RsA := Lib.hid (RrA.out.below hbs RrA.out.lt)
    have C3 := Lib.hid (K24.out wsA hbs)
    have HXA := Lib.hid hbs
    clear hbs cr C2
    by_cases hlen : (tx.size : Int) ≤ 16384
    case neg =>
      have hlen2 : ¬ (tx.size : Int) ≤ 16384 := hlen
      go_wp2_with fail
      have CAmA := Lib.hid (awake9_any _ (Tabs.step HT.out HBsA.out) (HE.out.below HBsA.out))
      go_wp2_with fail
      refine CAmA.out.mono ?_
      rintro e w9mA ⟨rfl, hb9mA⟩
      have HB9mA := Lib.hid (HBsA.out.trans (hb9mA.mono HBsA.out.size))
      clear hb9mA CAmA
      go_wp2_with fail
      (first | go_ret | go_ret2)
      exact ⟨rfl, HB9mA.out⟩
    case pos =>
    have cs := RsA.out.cell
    go_wp2_with fail
    refine C3.out.mono ?_
    rintro e wtA ⟨rfl, hbt⟩
    have HBtA := Lib.hid (HBsA.out.trans (hbt.mono HBsA.out.size))
    have RtA := Lib.hid (RsA.out.below hbt RsA.out.lt)
    have HYA := Lib.hid (HXA.out.trans (hbt.mono HXA.out.size))
    have C4 := tparse_all tx (by omega) wtA (Tabs.step HT.out HBtA.out) (HE.out.below HBtA.out)
    rw [parse_back HG.out.1 HG.out.2.1 HXS.out (by omega) HG.out.2.2.1] at C4
    have C4h := Lib.hid C4
    clear hbt cs C3 C4
    go_wp2_with fail
    refine C4h.out.mono ?_
    rintro e wuA ⟨Vn, vn, V, vc, rfl, hti, hbu⟩
    simp only at hti ⊢
    have HBuA := Lib.hid (HBtA.out.trans (hbu.mono HBtA.out.size))
    have HZA := Lib.hid (HYA.out.trans (hbu.mono HYA.out.size))
    have bvA := bel1 wuA (.cells (tarr u.kind Vn u.names.length vn V u.parts.length vc) 25)
    obtain ⟨wvA, hwvA⟩ : ∃ wvA, wvA = wuA.alloc (.cells (tarr u.kind Vn u.names.length vn V u.parts.length vc) 25) := ⟨_, rfl⟩
    have RvA : Hid (RowB wvA wuA.heap.size 25 (tarr u.kind Vn u.names.length vn V u.parts.length vc)) := by rw [hwvA]; exact RowB.new wuA 25 _
    rw [← hwvA] at bvA
    have HTIvA := Lib.hid (hti.below bvA)
    have HBvA := Lib.hid (HBuA.out.trans (bvA.mono HBuA.out.size))
    have hzz := HZA.out.trans (bvA.mono HZA.out.size)
    have CS := psame_any u (by have := HG.out.2.2.2; omega) u (by have := HG.out.2.2.2; omega) wvA _ _ Un un U uc Vn vn V vc (HTIrA.out.below hzz) HTIvA.out
    rw [same_refl, KU.out, KU.out] at CS
    have CSh := Lib.hid CS
    have c1 := (RrA.out.below hzz RrA.out.lt).cell
    have c2 := RvA.out.cell
    have hkk := KU.out Vn vn V vc
    simp only [tv, Value.agg.injEq] at hkk
    simp only [tarr, hkk] at hwvA c2
    simp only [tv, hkk]
    have ev := hwvA
    rw [ev] at c1 c2
    clear hti hbu bvA hwvA hzz CS C4h hkk HTIvA RvA
    go_wp2_with fail
    rw [← ev]
    refine CSh.out.mono ?_
    rintro e wxA ⟨rfl, hbx⟩
    have HBxA := Lib.hid (HBvA.out.trans (hbx.mono HBvA.out.size))
    clear hbx CSh c1 c2 ev
    go_wp2_with fail
    have CAzA := Lib.hid (awake9_any _ (Tabs.step HT.out HBxA.out) (HE.out.below HBxA.out))
    go_wp2_with fail
    refine CAzA.out.mono ?_
    rintro e w9zA ⟨rfl, hb9zA⟩
    have HB9zA := Lib.hid (HBxA.out.trans (hb9zA.mono HBxA.out.size))
    clear hb9zA CAzA
    go_wp2_with fail
    (first | go_ret | go_ret2)
    exact ⟨rfl, HB9zA.out⟩
  | true =>
  have hrt : t.right = true := by first | exact HRR.out.symm | exact (HRR.out (by trivial)).symm
  have HRT := Lib.hid hrt
  have C16 := Lib.hid (K16.out wb HXb.out)
  have r3 := R3b.out.cell
  clear hrt HRR
  go_wp2_with fail
  refine C16.out.mono ?_
  rintro e wc ⟨rfl, hc⟩
  have HXc := Lib.hid (HXb.out.trans (hc.mono HXb.out.size))
  have HBc := Lib.hid (HBb.out.trans (hc.mono HBb.out.size))
  have R3c := Lib.hid (R3b.out.below hc R3b.out.lt)
  clear hc C16 r3 R3b HXb K16
  by_cases hd : dt ≤ 12
  case neg =>
    clear K24 HTT
    go_wp2_with fail
    have CPB := tparse_all s HSS.out wc (Tabs.step HT.out HBc.out) (HE.out.below HBc.out)
    obtain ⟨rB, hrB⟩ : ∃ r, r = parseT s := ⟨_, rfl⟩
    rw [← hrB] at CPB
    have HRB := Lib.hid hrB
    have CQB := Lib.hid CPB
    clear CPB hrB
    obtain ⟨z, u⟩ := rB
    go_wp2_with fail
    refine CQB.out.mono ?_
    rintro e wpB ⟨Un, un, U, uc, rfl, hti, hbp⟩
    simp only at hti ⊢
    have HBpB := Lib.hid (HBc.out.trans (hbp.mono HBc.out.size))
    have bqB := bel1 wpB (.cells (tarr u.kind Un u.names.length un U u.parts.length uc) 25)
    obtain ⟨wqB, hwqB⟩ : ∃ wqB, wqB = wpB.alloc (.cells (tarr u.kind Un u.names.length un U u.parts.length uc) 25) := ⟨_, rfl⟩
    have RqB : Hid (RowB wqB wpB.heap.size 25 (tarr u.kind Un u.names.length un U u.parts.length uc)) := by rw [hwqB]; exact RowB.new wpB 25 _
    rw [← hwqB] at bqB
    have HTIqB := Lib.hid (hti.below bqB)
    have HBqB := Lib.hid (HBpB.out.trans (bqB.mono HBpB.out.size))
    obtain ⟨ku, hku⟩ : ∃ k, k = u.kind := ⟨_, rfl⟩
    obtain ⟨lnu, hnu⟩ : ∃ k, k = u.names.length := ⟨_, rfl⟩
    obtain ⟨lpu, hpu⟩ : ∃ k, k = u.parts.length := ⟨_, rfl⟩
    have KU : Hid (∀ An cn A c, tv u An cn A c = .agg #[.int .i64 ku, .slice An lnu cn, .slice A lpu c]) := fun _ _ _ _ => by rw [hku, hnu, hpu]
    simp only [tarr, tv, ← hku, ← hnu, ← hpu] at hwqB RqB ⊢
    have eqqB := hwqB
    clear hti hbp bqB hwqB hku hnu hpu CQB
    by_cases hz : z = 0
    case neg =>
      have hzb : (z == 0) = false := by rw [beq_eq_false_iff_ne]; exact hz
      go_wp2_with fail
      rw [← eqqB]
      have CAnB := Lib.hid (awake9_any _ (Tabs.step HT.out HBqB.out) (HE.out.below HBqB.out))
      go_wp2_with fail
      refine CAnB.out.mono ?_
      rintro e w9nB ⟨rfl, hb9nB⟩
      have HB9nB := Lib.hid (HBqB.out.trans (hb9nB.mono HBqB.out.size))
      clear hb9nB CAnB
      go_wp2_with fail
      (first | go_ret | go_ret2)
      exact ⟨rfl, HB9nB.out⟩
    case pos =>
    subst hz
    have hg := parse_good HRB.out.symm
    have HG := Lib.hid hg
    have C1 := pright_any u (by have := hg.2.2.2; omega) wqB _ Un un U uc HTIqB.out
    rw [hg.1, KU.out] at C1
    have C1h := Lib.hid C1
    have cq := RqB.out.cell
    rw [eqqB] at cq
    clear hg C1
    go_wp2_with fail
    rw [← eqqB]
    clear eqqB cq
    refine C1h.out.mono ?_
    rintro e wrB ⟨rfl, hbr⟩
    have HBrB := Lib.hid (HBqB.out.trans (hbr.mono HBqB.out.size))
    have RrB := Lib.hid (RqB.out.below hbr RqB.out.lt)
    have HTIrB := Lib.hid (HTIqB.out.below hbr)
    have hlu : u.text.length ≤ lim := by have h1 := text_le u HG.out.1; have h2 := HG.out.2.2.1; unfold lim; omega
    have HLU := Lib.hid hlu
    have K24 : Hid (∀ w', Below wrB.heap.size wrB w' → Calls Tryz.prog 24 #[.agg #[.int .i64 ku, .slice Un lnu un, .slice U lpu uc]] w' fun e w2 => e = .returned (.string (textS u)) ∧ Below w'.heap.size w' w2) := fun w' hb => by
      rw [← KU.out]
      exact text_any u (by have := HG.out.2.2.2; omega) HLU.out w' _ Un un U uc (HTIrB.out.below hb)
    have hxs : (textS u).data.toList = u.text := by unfold textS; rw [if_pos HG.out.1]
    obtain ⟨tx, htx⟩ : ∃ tx, tx = textS u := ⟨_, rfl⟩
    rw [← htx] at K24 hxs
    have HXS := Lib.hid hxs
    have C2 := Lib.hid (K24.out wrB (Below.refl _ _))
    have cr := RrB.out.cell
    clear hbr hlu hxs htx C1h HTIqB RqB HBqB
    go_wp2_with fail
    refine C2.out.mono ?_
    rintro e wsB ⟨rfl, hbs⟩
    have HBsB := Lib.hid (HBrB.out.trans (hbs.mono HBrB.out.size))
    have RsB := Lib.hid (RrB.out.below hbs RrB.out.lt)
    have C3 := Lib.hid (K24.out wsB hbs)
    have HXB := Lib.hid hbs
    clear hbs cr C2
    by_cases hlen : (tx.size : Int) ≤ 16384
    case neg =>
      have hlen2 : ¬ (tx.size : Int) ≤ 16384 := hlen
      go_wp2_with fail
      have CAmB := Lib.hid (awake9_any _ (Tabs.step HT.out HBsB.out) (HE.out.below HBsB.out))
      go_wp2_with fail
      refine CAmB.out.mono ?_
      rintro e w9mB ⟨rfl, hb9mB⟩
      have HB9mB := Lib.hid (HBsB.out.trans (hb9mB.mono HBsB.out.size))
      clear hb9mB CAmB
      go_wp2_with fail
      (first | go_ret | go_ret2)
      exact ⟨rfl, HB9mB.out⟩
    case pos =>
    have cs := RsB.out.cell
    go_wp2_with fail
    refine C3.out.mono ?_
    rintro e wtB ⟨rfl, hbt⟩
    have HBtB := Lib.hid (HBsB.out.trans (hbt.mono HBsB.out.size))
    have RtB := Lib.hid (RsB.out.below hbt RsB.out.lt)
    have HYB := Lib.hid (HXB.out.trans (hbt.mono HXB.out.size))
    have C4 := tparse_all tx (by omega) wtB (Tabs.step HT.out HBtB.out) (HE.out.below HBtB.out)
    rw [parse_back HG.out.1 HG.out.2.1 HXS.out (by omega) HG.out.2.2.1] at C4
    have C4h := Lib.hid C4
    clear hbt cs C3 C4
    go_wp2_with fail
    refine C4h.out.mono ?_
    rintro e wuB ⟨Vn, vn, V, vc, rfl, hti, hbu⟩
    simp only at hti ⊢
    have HBuB := Lib.hid (HBtB.out.trans (hbu.mono HBtB.out.size))
    have HZB := Lib.hid (HYB.out.trans (hbu.mono HYB.out.size))
    have bvB := bel1 wuB (.cells (tarr u.kind Vn u.names.length vn V u.parts.length vc) 25)
    obtain ⟨wvB, hwvB⟩ : ∃ wvB, wvB = wuB.alloc (.cells (tarr u.kind Vn u.names.length vn V u.parts.length vc) 25) := ⟨_, rfl⟩
    have RvB : Hid (RowB wvB wuB.heap.size 25 (tarr u.kind Vn u.names.length vn V u.parts.length vc)) := by rw [hwvB]; exact RowB.new wuB 25 _
    rw [← hwvB] at bvB
    have HTIvB := Lib.hid (hti.below bvB)
    have HBvB := Lib.hid (HBuB.out.trans (bvB.mono HBuB.out.size))
    have hzz := HZB.out.trans (bvB.mono HZB.out.size)
    have CS := psame_any u (by have := HG.out.2.2.2; omega) u (by have := HG.out.2.2.2; omega) wvB _ _ Un un U uc Vn vn V vc (HTIrB.out.below hzz) HTIvB.out
    rw [same_refl, KU.out, KU.out] at CS
    have CSh := Lib.hid CS
    have c1 := (RrB.out.below hzz RrB.out.lt).cell
    have c2 := RvB.out.cell
    have hkk := KU.out Vn vn V vc
    simp only [tv, Value.agg.injEq] at hkk
    simp only [tarr, hkk] at hwvB c2
    simp only [tv, hkk]
    have ev := hwvB
    rw [ev] at c1 c2
    clear hti hbu bvB hwvB hzz CS C4h hkk HTIvB RvB
    go_wp2_with fail
    rw [← ev]
    refine CSh.out.mono ?_
    rintro e wxB ⟨rfl, hbx⟩
    have HBxB := Lib.hid (HBvB.out.trans (hbx.mono HBvB.out.size))
    clear hbx CSh c1 c2 ev
    go_wp2_with fail
    have CAzB := Lib.hid (awake9_any _ (Tabs.step HT.out HBxB.out) (HE.out.below HBxB.out))
    go_wp2_with fail
    refine CAzB.out.mono ?_
    rintro e w9zB ⟨rfl, hb9zB⟩
    have HB9zB := Lib.hid (HBxB.out.trans (hb9zB.mono HBxB.out.size))
    clear hb9zB CAzB
    go_wp2_with fail
    (first | go_ret | go_ret2)
    exact ⟨rfl, HB9zB.out⟩
  case pos =>
  have HD := Lib.hid hd
  have C24 := Lib.hid (K24.out HRT.out wc HXc.out)
  have r3 := R3c.out.cell
  go_wp2_with fail
  refine C24.out.mono ?_
  rintro e wd ⟨rfl, hdd⟩
  have HXd := Lib.hid (HXc.out.trans (hdd.mono HXc.out.size))
  have HBd := Lib.hid (HBc.out.trans (hdd.mono HBc.out.size))
  have R3d := Lib.hid (R3c.out.below hdd R3c.out.lt)
  clear hdd C24 r3 R3c HXc hd
  by_cases hl : (tx.size : Int) ≤ 4000
  case neg =>
    clear K24 HTT
    go_wp2_with fail
    have CPC := tparse_all s HSS.out wd (Tabs.step HT.out HBd.out) (HE.out.below HBd.out)
    obtain ⟨rC, hrC⟩ : ∃ r, r = parseT s := ⟨_, rfl⟩
    rw [← hrC] at CPC
    have HRC := Lib.hid hrC
    have CQC := Lib.hid CPC
    clear CPC hrC
    obtain ⟨z, u⟩ := rC
    go_wp2_with fail
    refine CQC.out.mono ?_
    rintro e wpC ⟨Un, un, U, uc, rfl, hti, hbp⟩
    simp only at hti ⊢
    have HBpC := Lib.hid (HBd.out.trans (hbp.mono HBd.out.size))
    have bqC := bel1 wpC (.cells (tarr u.kind Un u.names.length un U u.parts.length uc) 25)
    obtain ⟨wqC, hwqC⟩ : ∃ wqC, wqC = wpC.alloc (.cells (tarr u.kind Un u.names.length un U u.parts.length uc) 25) := ⟨_, rfl⟩
    have RqC : Hid (RowB wqC wpC.heap.size 25 (tarr u.kind Un u.names.length un U u.parts.length uc)) := by rw [hwqC]; exact RowB.new wpC 25 _
    rw [← hwqC] at bqC
    have HTIqC := Lib.hid (hti.below bqC)
    have HBqC := Lib.hid (HBpC.out.trans (bqC.mono HBpC.out.size))
    obtain ⟨ku, hku⟩ : ∃ k, k = u.kind := ⟨_, rfl⟩
    obtain ⟨lnu, hnu⟩ : ∃ k, k = u.names.length := ⟨_, rfl⟩
    obtain ⟨lpu, hpu⟩ : ∃ k, k = u.parts.length := ⟨_, rfl⟩
    have KU : Hid (∀ An cn A c, tv u An cn A c = .agg #[.int .i64 ku, .slice An lnu cn, .slice A lpu c]) := fun _ _ _ _ => by rw [hku, hnu, hpu]
    simp only [tarr, tv, ← hku, ← hnu, ← hpu] at hwqC RqC ⊢
    have eqqC := hwqC
    clear hti hbp bqC hwqC hku hnu hpu CQC
    by_cases hz : z = 0
    case neg =>
      have hzb : (z == 0) = false := by rw [beq_eq_false_iff_ne]; exact hz
      go_wp2_with fail
      rw [← eqqC]
      have CAnC := Lib.hid (awake9_any _ (Tabs.step HT.out HBqC.out) (HE.out.below HBqC.out))
      go_wp2_with fail
      refine CAnC.out.mono ?_
      rintro e w9nC ⟨rfl, hb9nC⟩
      have HB9nC := Lib.hid (HBqC.out.trans (hb9nC.mono HBqC.out.size))
      clear hb9nC CAnC
      go_wp2_with fail
      (first | go_ret | go_ret2)
      exact ⟨rfl, HB9nC.out⟩
    case pos =>
    subst hz
    have hg := parse_good HRC.out.symm
    have HG := Lib.hid hg
    have C1 := pright_any u (by have := hg.2.2.2; omega) wqC _ Un un U uc HTIqC.out
    rw [hg.1, KU.out] at C1
    have C1h := Lib.hid C1
    have cq := RqC.out.cell
    rw [eqqC] at cq
    clear hg C1
    go_wp2_with fail
    rw [← eqqC]
    clear eqqC cq
    refine C1h.out.mono ?_
    rintro e wrC ⟨rfl, hbr⟩
    have HBrC := Lib.hid (HBqC.out.trans (hbr.mono HBqC.out.size))
    have RrC := Lib.hid (RqC.out.below hbr RqC.out.lt)
    have HTIrC := Lib.hid (HTIqC.out.below hbr)
    have hlu : u.text.length ≤ lim := by have h1 := text_le u HG.out.1; have h2 := HG.out.2.2.1; unfold lim; omega
    have HLU := Lib.hid hlu
    have K24 : Hid (∀ w', Below wrC.heap.size wrC w' → Calls Tryz.prog 24 #[.agg #[.int .i64 ku, .slice Un lnu un, .slice U lpu uc]] w' fun e w2 => e = .returned (.string (textS u)) ∧ Below w'.heap.size w' w2) := fun w' hb => by
      rw [← KU.out]
      exact text_any u (by have := HG.out.2.2.2; omega) HLU.out w' _ Un un U uc (HTIrC.out.below hb)
    have hxs : (textS u).data.toList = u.text := by unfold textS; rw [if_pos HG.out.1]
    obtain ⟨tx, htx⟩ : ∃ tx, tx = textS u := ⟨_, rfl⟩
    rw [← htx] at K24 hxs
    have HXS := Lib.hid hxs
    have C2 := Lib.hid (K24.out wrC (Below.refl _ _))
    have cr := RrC.out.cell
    clear hbr hlu hxs htx C1h HTIqC RqC HBqC
    go_wp2_with fail
    refine C2.out.mono ?_
    rintro e wsC ⟨rfl, hbs⟩
    have HBsC := Lib.hid (HBrC.out.trans (hbs.mono HBrC.out.size))
    have RsC := Lib.hid (RrC.out.below hbs RrC.out.lt)
    have C3 := Lib.hid (K24.out wsC hbs)
    have HXC := Lib.hid hbs
    clear hbs cr C2
    by_cases hlen : (tx.size : Int) ≤ 16384
    case neg =>
      have hlen2 : ¬ (tx.size : Int) ≤ 16384 := hlen
      go_wp2_with fail
      have CAmC := Lib.hid (awake9_any _ (Tabs.step HT.out HBsC.out) (HE.out.below HBsC.out))
      go_wp2_with fail
      refine CAmC.out.mono ?_
      rintro e w9mC ⟨rfl, hb9mC⟩
      have HB9mC := Lib.hid (HBsC.out.trans (hb9mC.mono HBsC.out.size))
      clear hb9mC CAmC
      go_wp2_with fail
      (first | go_ret | go_ret2)
      exact ⟨rfl, HB9mC.out⟩
    case pos =>
    have cs := RsC.out.cell
    go_wp2_with fail
    refine C3.out.mono ?_
    rintro e wtC ⟨rfl, hbt⟩
    have HBtC := Lib.hid (HBsC.out.trans (hbt.mono HBsC.out.size))
    have RtC := Lib.hid (RsC.out.below hbt RsC.out.lt)
    have HYC := Lib.hid (HXC.out.trans (hbt.mono HXC.out.size))
    have C4 := tparse_all tx (by omega) wtC (Tabs.step HT.out HBtC.out) (HE.out.below HBtC.out)
    rw [parse_back HG.out.1 HG.out.2.1 HXS.out (by omega) HG.out.2.2.1] at C4
    have C4h := Lib.hid C4
    clear hbt cs C3 C4
    go_wp2_with fail
    refine C4h.out.mono ?_
    rintro e wuC ⟨Vn, vn, V, vc, rfl, hti, hbu⟩
    simp only at hti ⊢
    have HBuC := Lib.hid (HBtC.out.trans (hbu.mono HBtC.out.size))
    have HZC := Lib.hid (HYC.out.trans (hbu.mono HYC.out.size))
    have bvC := bel1 wuC (.cells (tarr u.kind Vn u.names.length vn V u.parts.length vc) 25)
    obtain ⟨wvC, hwvC⟩ : ∃ wvC, wvC = wuC.alloc (.cells (tarr u.kind Vn u.names.length vn V u.parts.length vc) 25) := ⟨_, rfl⟩
    have RvC : Hid (RowB wvC wuC.heap.size 25 (tarr u.kind Vn u.names.length vn V u.parts.length vc)) := by rw [hwvC]; exact RowB.new wuC 25 _
    rw [← hwvC] at bvC
    have HTIvC := Lib.hid (hti.below bvC)
    have HBvC := Lib.hid (HBuC.out.trans (bvC.mono HBuC.out.size))
    have hzz := HZC.out.trans (bvC.mono HZC.out.size)
    have CS := psame_any u (by have := HG.out.2.2.2; omega) u (by have := HG.out.2.2.2; omega) wvC _ _ Un un U uc Vn vn V vc (HTIrC.out.below hzz) HTIvC.out
    rw [same_refl, KU.out, KU.out] at CS
    have CSh := Lib.hid CS
    have c1 := (RrC.out.below hzz RrC.out.lt).cell
    have c2 := RvC.out.cell
    have hkk := KU.out Vn vn V vc
    simp only [tv, Value.agg.injEq] at hkk
    simp only [tarr, hkk] at hwvC c2
    simp only [tv, hkk]
    have ev := hwvC
    rw [ev] at c1 c2
    clear hti hbu bvC hwvC hzz CS C4h hkk HTIvC RvC
    go_wp2_with fail
    rw [← ev]
    refine CSh.out.mono ?_
    rintro e wxC ⟨rfl, hbx⟩
    have HBxC := Lib.hid (HBvC.out.trans (hbx.mono HBvC.out.size))
    clear hbx CSh c1 c2 ev
    go_wp2_with fail
    have CAzC := Lib.hid (awake9_any _ (Tabs.step HT.out HBxC.out) (HE.out.below HBxC.out))
    go_wp2_with fail
    refine CAzC.out.mono ?_
    rintro e w9zC ⟨rfl, hb9zC⟩
    have HB9zC := Lib.hid (HBxC.out.trans (hb9zC.mono HBxC.out.size))
    clear hb9zC CAzC
    go_wp2_with fail
    (first | go_ret | go_ret2)
    exact ⟨rfl, HB9zC.out⟩
  case pos =>
  have HLN := Lib.hid hl
  have C24 := Lib.hid (K24.out HRT.out wd HXd.out)
  have r3 := R3d.out.cell
  go_wp2_with fail
  refine C24.out.mono ?_
  rintro e we ⟨rfl, he⟩
  have HXe := Lib.hid (HXd.out.trans (he.mono HXd.out.size))
  have HBe := Lib.hid (HBd.out.trans (he.mono HBd.out.size))
  have R3e := Lib.hid (R3d.out.below he R3d.out.lt)
  clear he C24 r3 R3d HXd
  have hxs : tx.data.toList = t.text := by rw [HTX.out]; unfold textS; rw [if_pos HRT.out]
  have C4 := tparse_all tx (by omega) we (Tabs.step HT.out HBe.out) (HE.out.below HBe.out)
  rw [parse_again HRT.out (by have h1 := HDT.out; have h2 := HD.out; omega) hxs (by omega)] at C4
  have C4h := Lib.hid C4
  clear C4 hxs hl
  go_wp2_with fail
  refine C4h.out.mono ?_
  rintro e wf ⟨Vn, vn, V, vc, rfl, hti, hbf⟩
  simp only at hti ⊢
  have HXf := Lib.hid (HXe.out.trans (hbf.mono HXe.out.size))
  have HBf := Lib.hid (HBe.out.trans (hbf.mono HBe.out.size))
  have R3f := Lib.hid (R3e.out.below hbf R3e.out.lt)
  have bg := bel1 wf (.cells (tarr t.kind Vn t.names.length vn V t.parts.length vc) 25)
  obtain ⟨wg, hwg⟩ : ∃ wg, wg = wf.alloc (.cells (tarr t.kind Vn t.names.length vn V t.parts.length vc) 25) := ⟨_, rfl⟩
  have Rg : Hid (RowB wg wf.heap.size 25 (tarr t.kind Vn t.names.length vn V t.parts.length vc)) := by rw [hwg]; exact RowB.new wf 25 _
  rw [← hwg] at bg
  have HTIg := Lib.hid (hti.below bg)
  have HBg := Lib.hid (HBf.out.trans (bg.mono HBf.out.size))
  have R3g := Lib.hid (R3f.out.below bg R3f.out.lt)
  have hzz := HXf.out.trans (bg.mono HXf.out.size)
  have CS := psame_any t (by have := HCT1.out; omega) t (by have := HCT1.out; omega) wg _ _ An cn A c Vn vn V vc (HTT.out wg hzz) HTIg.out
  rw [same_refl, KT.out, KT.out] at CS
  have CSh := Lib.hid CS
  have c1 := R3g.out.cell
  have c2 := Rg.out.cell
  have hkk := KT.out Vn vn V vc
  simp only [tv, Value.agg.injEq] at hkk
  simp only [tarr, hkk] at hwg c2
  simp only [tv, hkk]
  have ev := hwg
  rw [ev] at c1 c2
  clear hti hbf bg hwg hzz CS C4h hkk HTIg Rg R3f R3e K24 HTT
  go_wp2_with fail
  rw [← ev]
  refine CSh.out.mono ?_
  rintro e wh ⟨rfl, hbh⟩
  have HBh := Lib.hid (HBg.out.trans (hbh.mono HBg.out.size))
  clear hbh CSh c1 c2 ev R3g
  go_wp2_with fail
  have CPD := tparse_all s HSS.out wh (Tabs.step HT.out HBh.out) (HE.out.below HBh.out)
  obtain ⟨rD, hrD⟩ : ∃ r, r = parseT s := ⟨_, rfl⟩
  rw [← hrD] at CPD
  have HRD := Lib.hid hrD
  have CQD := Lib.hid CPD
  clear CPD hrD
  obtain ⟨z, u⟩ := rD
  go_wp2_with fail
  refine CQD.out.mono ?_
  rintro e wpD ⟨Un, un, U, uc, rfl, hti, hbp⟩
  simp only at hti ⊢
  have HBpD := Lib.hid (HBh.out.trans (hbp.mono HBh.out.size))
  have bqD := bel1 wpD (.cells (tarr u.kind Un u.names.length un U u.parts.length uc) 25)
  obtain ⟨wqD, hwqD⟩ : ∃ wqD, wqD = wpD.alloc (.cells (tarr u.kind Un u.names.length un U u.parts.length uc) 25) := ⟨_, rfl⟩
  have RqD : Hid (RowB wqD wpD.heap.size 25 (tarr u.kind Un u.names.length un U u.parts.length uc)) := by rw [hwqD]; exact RowB.new wpD 25 _
  rw [← hwqD] at bqD
  have HTIqD := Lib.hid (hti.below bqD)
  have HBqD := Lib.hid (HBpD.out.trans (bqD.mono HBpD.out.size))
  obtain ⟨ku, hku⟩ : ∃ k, k = u.kind := ⟨_, rfl⟩
  obtain ⟨lnu, hnu⟩ : ∃ k, k = u.names.length := ⟨_, rfl⟩
  obtain ⟨lpu, hpu⟩ : ∃ k, k = u.parts.length := ⟨_, rfl⟩
  have KU : Hid (∀ An cn A c, tv u An cn A c = .agg #[.int .i64 ku, .slice An lnu cn, .slice A lpu c]) := fun _ _ _ _ => by rw [hku, hnu, hpu]
  simp only [tarr, tv, ← hku, ← hnu, ← hpu] at hwqD RqD ⊢
  have eqqD := hwqD
  clear hti hbp bqD hwqD hku hnu hpu CQD
  by_cases hz : z = 0
  case neg =>
    have hzb : (z == 0) = false := by rw [beq_eq_false_iff_ne]; exact hz
    go_wp2_with fail
    rw [← eqqD]
    have CAnD := Lib.hid (awake9_any _ (Tabs.step HT.out HBqD.out) (HE.out.below HBqD.out))
    go_wp2_with fail
    refine CAnD.out.mono ?_
    rintro e w9nD ⟨rfl, hb9nD⟩
    have HB9nD := Lib.hid (HBqD.out.trans (hb9nD.mono HBqD.out.size))
    clear hb9nD CAnD
    go_wp2_with fail
    (first | go_ret | go_ret2)
    exact ⟨rfl, HB9nD.out⟩
  case pos =>
  subst hz
  have hg := parse_good HRD.out.symm
  have HG := Lib.hid hg
  have C1 := pright_any u (by have := hg.2.2.2; omega) wqD _ Un un U uc HTIqD.out
  rw [hg.1, KU.out] at C1
  have C1h := Lib.hid C1
  have cq := RqD.out.cell
  rw [eqqD] at cq
  clear hg C1
  go_wp2_with fail
  rw [← eqqD]
  clear eqqD cq
  refine C1h.out.mono ?_
  rintro e wrD ⟨rfl, hbr⟩
  have HBrD := Lib.hid (HBqD.out.trans (hbr.mono HBqD.out.size))
  have RrD := Lib.hid (RqD.out.below hbr RqD.out.lt)
  have HTIrD := Lib.hid (HTIqD.out.below hbr)
  have hlu : u.text.length ≤ lim := by have h1 := text_le u HG.out.1; have h2 := HG.out.2.2.1; unfold lim; omega
  have HLU := Lib.hid hlu
  have K24 : Hid (∀ w', Below wrD.heap.size wrD w' → Calls Tryz.prog 24 #[.agg #[.int .i64 ku, .slice Un lnu un, .slice U lpu uc]] w' fun e w2 => e = .returned (.string (textS u)) ∧ Below w'.heap.size w' w2) := fun w' hb => by
    rw [← KU.out]
    exact text_any u (by have := HG.out.2.2.2; omega) HLU.out w' _ Un un U uc (HTIrD.out.below hb)
  have hxs : (textS u).data.toList = u.text := by unfold textS; rw [if_pos HG.out.1]
  obtain ⟨tx, htx⟩ : ∃ tx, tx = textS u := ⟨_, rfl⟩
  rw [← htx] at K24 hxs
  have HXS := Lib.hid hxs
  have C2 := Lib.hid (K24.out wrD (Below.refl _ _))
  have cr := RrD.out.cell
  clear hbr hlu hxs htx C1h HTIqD RqD HBqD
  go_wp2_with fail
  refine C2.out.mono ?_
  rintro e wsD ⟨rfl, hbs⟩
  have HBsD := Lib.hid (HBrD.out.trans (hbs.mono HBrD.out.size))
  have RsD := Lib.hid (RrD.out.below hbs RrD.out.lt)
  have C3 := Lib.hid (K24.out wsD hbs)
  have HXD := Lib.hid hbs
  clear hbs cr C2
  by_cases hlen : (tx.size : Int) ≤ 16384
  case neg =>
    have hlen2 : ¬ (tx.size : Int) ≤ 16384 := hlen
    go_wp2_with fail
    have CAmD := Lib.hid (awake9_any _ (Tabs.step HT.out HBsD.out) (HE.out.below HBsD.out))
    go_wp2_with fail
    refine CAmD.out.mono ?_
    rintro e w9mD ⟨rfl, hb9mD⟩
    have HB9mD := Lib.hid (HBsD.out.trans (hb9mD.mono HBsD.out.size))
    clear hb9mD CAmD
    go_wp2_with fail
    (first | go_ret | go_ret2)
    exact ⟨rfl, HB9mD.out⟩
  case pos =>
  have cs := RsD.out.cell
  go_wp2_with fail
  refine C3.out.mono ?_
  rintro e wtD ⟨rfl, hbt⟩
  have HBtD := Lib.hid (HBsD.out.trans (hbt.mono HBsD.out.size))
  have RtD := Lib.hid (RsD.out.below hbt RsD.out.lt)
  have HYD := Lib.hid (HXD.out.trans (hbt.mono HXD.out.size))
  have C4 := tparse_all tx (by omega) wtD (Tabs.step HT.out HBtD.out) (HE.out.below HBtD.out)
  rw [parse_back HG.out.1 HG.out.2.1 HXS.out (by omega) HG.out.2.2.1] at C4
  have C4h := Lib.hid C4
  clear hbt cs C3 C4
  go_wp2_with fail
  refine C4h.out.mono ?_
  rintro e wuD ⟨Vn, vn, V, vc, rfl, hti, hbu⟩
  simp only at hti ⊢
  have HBuD := Lib.hid (HBtD.out.trans (hbu.mono HBtD.out.size))
  have HZD := Lib.hid (HYD.out.trans (hbu.mono HYD.out.size))
  have bvD := bel1 wuD (.cells (tarr u.kind Vn u.names.length vn V u.parts.length vc) 25)
  obtain ⟨wvD, hwvD⟩ : ∃ wvD, wvD = wuD.alloc (.cells (tarr u.kind Vn u.names.length vn V u.parts.length vc) 25) := ⟨_, rfl⟩
  have RvD : Hid (RowB wvD wuD.heap.size 25 (tarr u.kind Vn u.names.length vn V u.parts.length vc)) := by rw [hwvD]; exact RowB.new wuD 25 _
  rw [← hwvD] at bvD
  have HTIvD := Lib.hid (hti.below bvD)
  have HBvD := Lib.hid (HBuD.out.trans (bvD.mono HBuD.out.size))
  have hzz := HZD.out.trans (bvD.mono HZD.out.size)
  have CS := psame_any u (by have := HG.out.2.2.2; omega) u (by have := HG.out.2.2.2; omega) wvD _ _ Un un U uc Vn vn V vc (HTIrD.out.below hzz) HTIvD.out
  rw [same_refl, KU.out, KU.out] at CS
  have CSh := Lib.hid CS
  have c1 := (RrD.out.below hzz RrD.out.lt).cell
  have c2 := RvD.out.cell
  have hkk := KU.out Vn vn V vc
  simp only [tv, Value.agg.injEq] at hkk
  simp only [tarr, hkk] at hwvD c2
  simp only [tv, hkk]
  have ev := hwvD
  rw [ev] at c1 c2
  clear hti hbu bvD hwvD hzz CS C4h hkk HTIvD RvD
  go_wp2_with fail
  rw [← ev]
  refine CSh.out.mono ?_
  rintro e wxD ⟨rfl, hbx⟩
  have HBxD := Lib.hid (HBvD.out.trans (hbx.mono HBvD.out.size))
  clear hbx CSh c1 c2 ev
  go_wp2_with fail
  have CAzD := Lib.hid (awake9_any _ (Tabs.step HT.out HBxD.out) (HE.out.below HBxD.out))
  go_wp2_with fail
  refine CAzD.out.mono ?_
  rintro e w9zD ⟨rfl, hb9zD⟩
  have HB9zD := Lib.hid (HBxD.out.trans (hb9zD.mono HBxD.out.size))
  clear hb9zD CAzD
  go_wp2_with fail
  (first | go_ret | go_ret2)
  exact ⟨rfl, HB9zD.out⟩
end Tm
end Go.Proofs.YtifkjngclkklfaaGreatDoor
