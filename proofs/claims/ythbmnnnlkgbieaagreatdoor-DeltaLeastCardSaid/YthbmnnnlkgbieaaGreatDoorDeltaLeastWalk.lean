/- The law DeltaLeast answers true. -/
import Derived.Test.YthbmnnnlkgbieaaGreatDoorDeltaTurnsWalk
import Derived.Test.YthbmnnnlkgbieaaGreatDoorRH
import Derived.Test.YthbmnnnlkgbieaaGreatDoorDW
namespace Go.Proofs.YthbmnnnlkgbieaaGreatDoor
open Go.RowKit

/-- Cut of whole units, as strings in memory. -/
def CutL (lo : List ByteArray) (w : World) (e : Ending) (w' : World) : Prop :=
  ∃ A cap, e = .returned (.tuple #[.slice A lo.length cap, .bool true]) ∧ Strs w' w'.heap.size A lo ∧ lo.length ≤ cap ∧ Below w.heap.size w w'
theorem cuts_any (l : List ByteArray) (A : Option Addr) (cap i j : Nat) (w : World) (hS : Strs w w.heap.size A l) (hl : l.length ≤ 8000) (hcap : l.length ≤ cap) (hz : szs l ≤ 100000) (hf : Full1 l) (hij : i ≤ j) (hj : j ≤ l.length) :
    Calls Tryz.prog 14 #[.slice A l.length cap, .int .i64 (szs (l.take i) : Nat), .int .i64 (szs (l.take j) : Nat)] w (CutL (outs l i j) w) := by
  refine (cut_any l A cap i j w hS hl hcap hz hf hij hj).mono ?_
  rintro e w' ⟨v, rfl, hO, hb⟩
  obtain ⟨A', c', rfl, hc⟩ := own_frm hO
  exact ⟨A', c', rfl, (strs_of_own hO).1, hc, hb⟩
theorem ends_at (l : List ByteArray) (A : Option Addr) (cap i : Nat) (w : World) (hS : Strs w w.heap.size A l) (hl : l.length ≤ 8000) (hcap : l.length ≤ cap) (hz : szs l ≤ 100000) (hi : i ≤ l.length) :
    Calls Tryz.prog 15 #[.slice A l.length cap, .int .i64 (szs (l.take i) : Nat)] w fun e w' => e = .returned (.bool true) ∧ w = w' := by
  refine (ends_any l A cap _ w hS (by omega) hcap hz).mono ?_
  rintro e w' ⟨b, rfl, hb, rfl⟩
  rw [hb.2 ⟨i, hi, rfl⟩]
  exact ⟨rfl, rfl⟩
/-- What Units answers, as strings in memory. -/
def UnitS (l : List Tok) (w : World) (e : Ending) (w' : World) : Prop :=
  ∃ A cap, e = .returned (.slice A (unitsL l).length cap) ∧ Strs w' w'.heap.size A (unitsL l) ∧ (unitsL l).length ≤ cap ∧ Below w.heap.size w w'
theorem units_s (s : ByteArray) (l : List Tok) (A : Option Addr) (c : Nat) (w : World) (h : TokS w s l A c) : Calls Tryz.prog 12 #[.slice A l.length c] w (UnitS l w) := by
  refine (runits_any l A c w h.2.2.1 h.2.2.2.1 h.2.2.2.2).mono ?_
  rintro e w' ⟨v, rfl, hO, hb⟩
  obtain ⟨A', c', rfl, hc⟩ := own_frm hO
  exact ⟨A', c', rfl, (strs_of_own hO).1, hc, hb⟩
/-- What Between answers of few tokens: the edits of a way. -/
def BetG (u v : List ByteArray) (w : World) (e : Ending) (w' : World) : Prop :=
  ∃ G A cap, Dl.Good (bs u) (bs v) 0 0 G ∧ G.length ≤ 400 ∧ e = .returned (.slice A G.length cap) ∧ Eds w' w'.heap.size A (edsOf u v G) ∧ Below w.heap.size w w'
theorem TokS.betg {w : World} {s t : ByteArray} {la lb : List Tok} {A B : Option Addr} {ca cb : Nat} (hA : TokS w s la A ca) (hB : TokS w t lb B cb) (h : la.length + lb.length ≤ 200) :
    Calls Tryz.prog 9 #[.slice A la.length ca, .slice B lb.length cb] w (BetG (unitsL la) (unitsL lb) w) := by
  refine (hA.bete hB).mono ?_
  rintro e w' ⟨G, A', cap, hG, rfl, hes, hel, hb⟩
  have hg := (hG.good (small_units h)).1
  have hl := hg.way.len
  rw [bs_len, bs_len] at hl
  have h1 := unitsL_len la
  have h2 := unitsL_len lb
  have hf : Dl.few G = G := by unfold Dl.few; rw [dif_neg (by omega)]
  rw [hf] at hes ⊢
  exact ⟨G, A', cap, hg, by omega, by rw [edsOf, List.length_map], hes, hb⟩

set_option maxHeartbeats 8000000 in
set_option maxRecDepth 100000 in
theorem deltaLeast.walk (s t : ByteArray) (w : World) (hT : Tabs w) (hE : Errs w) (hs : s.size ≤ maxLen) (ht : t.size ≤ maxLen) :
    Calls Tryz.prog 4 #[.string s, .string t] w fun e w' => e = .returned (.bool true) ∧ Below w.heap.size w w' := by
  unfold maxLen at hs ht
  have HT := Lib.hid hT
  have HE := Lib.hid hE
  clear hT hE
  go_enter Tryz.func4, Tryz.ntmps4
  go_wp2_with fail
  refine (both_any s t (by omega) (by omega) w).mono ?_
  rintro e w1 ⟨hb, ⟨x, y, rfl⟩ | ⟨la, lb, A, B, ca, cb, hS, hS2, hsz, rfl⟩⟩
  · have C := Lib.hid (awake_any w1 (HT.out.step hb) (HE.out.below hb))
    have HB := Lib.hid hb
    clear hb
    go_wp2_with fail
    refine C.out.mono ?_
    rintro e w2 ⟨rfl, hb2⟩
    have HB2 := Lib.hid (step_below HB.out hb2)
    clear hb2
    go_wp2_with fail
    go_ret
    exact ⟨rfl, HB2.out⟩
  · have HB := Lib.hid hb
    have HS := Lib.hid hS
    have HS2 := Lib.hid hS2
    have hl1 := hS.2.2.2.1
    have hl2 := hS2.2.2.2.1
    clear hb hS hS2
    by_cases hn : la.length + lb.length ≤ 200
    · have hz : ¬ (la.length : Int) + (lb.length : Int) > 200 := by omega
      have HN := Lib.hid hn
      clear hn
      go_wp2_with fail
      refine (units_s s la A ca w1 HS.out).mono ?_
      rintro e w2 ⟨U, cu, rfl, hSU, hcu, hb⟩
      have HB2 := Lib.hid (step_below HB.out hb)
      have HS3 := Lib.hid (HS.out.below hb)
      have HS4 := Lib.hid (HS2.out.below hb)
      have HSU := Lib.hid hSU
      clear hb hSU
      go_wp2_with fail
      refine (units_s t lb B cb w2 HS4.out).mono ?_
      rintro e w3 ⟨V, cv, rfl, hSV, hcv, hb⟩
      have HB3 := Lib.hid (step_below HB2.out hb)
      have HS5 := Lib.hid (HS3.out.below hb)
      have HS6 := Lib.hid (HS4.out.below hb)
      have HSU2 := Lib.hid ((HSU.out.below hb).more hb.size)
      have HSV := Lib.hid hSV
      have hu1 := unitsL_len la
      have hv1 := unitsL_len lb
      have hzu : szs (unitsL la) ≤ 16384 := by rw [← HS5.out.1.is.size]; exact HS5.out.2.1
      have hzv : szs (unitsL lb) ≤ 16384 := by rw [← HS6.out.1.is.size]; exact HS6.out.2.1
      have HFU := Lib.hid (full_unitsL la)
      have HFV := Lib.hid (full_unitsL lb)
      clear hb hSV
      go_wp2_with fail
      refine (most_any (unitsL la) (unitsL lb) U V cu cv w3 HSU2.out HSV.out (by omega) (by omega) hcu hcv).mono ?_
      rintro e w4 ⟨rfl, hb⟩
      have HB4 := Lib.hid (step_below HB3.out hb)
      have HS7 := Lib.hid (HS5.out.below hb)
      have HS8 := Lib.hid (HS6.out.below hb)
      have HSU3 := Lib.hid ((HSU2.out.below hb).more hb.size)
      have HSV3 := Lib.hid ((HSV.out.below hb).more hb.size)
      clear hb
      go_wp2_with fail
      refine (HS7.out.betg HS8.out HN.out).mono ?_
      rintro e w5 ⟨G, X, cx, hG, hGl, rfl, hes, hb⟩
      have HB5 := Lib.hid (step_below HB4.out hb)
      have HS9 := Lib.hid (HS7.out.below hb)
      have HSa := Lib.hid (HS8.out.below hb)
      have HSU4 := Lib.hid ((HSU3.out.below hb).more hb.size)
      have HSV4 := Lib.hid ((HSV3.out.below hb).more hb.size)
      have HES := Lib.hid hes
      have HL0 := Lib.hid (LeftW.start hG)
      obtain ⟨u, hu⟩ : ∃ u, u = unitsL la := ⟨_, rfl⟩
      obtain ⟨v, hv⟩ : ∃ v, v = unitsL lb := ⟨_, rfl⟩
      have KP : Hid (∀ w', Below w5.heap.size w5 w' → Calls Tryz.prog 16 #[.slice A la.length ca, .slice B lb.length cb] w' fun e w'' => e = .returned (.int .i64 (Dl.lcs (bs u) (bs v) : Nat)) ∧ Below w'.heap.size w' w'') := fun w' hb' => by
        rw [hu, hv]
        exact keptl_any s t la lb A B ca cb w' (HS9.out.below hb') (HSa.out.below hb') HN.out
      rw [← hu] at HL0 HES HSU4 HFU hzu hu1 hcu
      rw [← hv] at HL0 HES HSV4 HFV hzv hv1 hcv
      rw [← hu, ← hv]
      have hHU : Hid (∀ i, szs (u.take i) ≤ 16384) := fun i => Nat.le_trans (szs_le u i) hzu
      have hHV : Hid (∀ i, szs (v.take i) ≤ 16384) := fun i => Nat.le_trans (szs_le v i) hzv
      obtain ⟨most, hmost⟩ : ∃ most, most = Dl.lcs (bs u) (bs v) := ⟨_, rfl⟩
      rw [← hmost] at KP
      rw [← hmost]
      have HM := Lib.hid hmost
      have hul : u.length ≤ 400 := by omega
      have hvl : v.length ≤ 400 := by omega
      clear hb hes hG hu hv hmost HS HS2 HS3 HS4 HS5 HS6 HS7 HS8 HSU HSU2 HSU3 HSV HSV3
      go_wp2_with fail
      go_loopg [11, 12, 50] (G.length + 1) (fun kx s11 s12 x wr => ∃ (k kp : Nat) (mo : Int), s11 = .int .i64 kp ∧ s12 = .int .i64 mo ∧ x = .int .i64 k ∧ k ≤ G.length ∧ G.length - k ≤ kx ∧ kp ≤ 400 ∧ -20000 ≤ mo ∧ mo ≤ 20000 ∧ Hid (LeftW u v G k kp mo) ∧ Hid (Below w5.heap.size w5 wr))
      case atStart => exact ⟨0, u.length, 0, rfl, rfl, rfl, by omega, by omega, hul, by omega, by omega, HL0.out, Below.refl _ _⟩
      case round =>
        obtain ⟨k, kp, mo, rfl, rfl, rfl, hk, hkx, hkp, hm1, hm2, HLk, HBk⟩ := hrel
        by_cases hlt : k < G.length
        · obtain ⟨⟨i, j, hF⟩, hmo, hle, hLn⟩ := HLk.out.next hlt
          have hEL : (edsOf u v G).length = G.length := by rw [edsOf, List.length_map]
          obtain ⟨xg, xo, ex, lxg, hxc⟩ := (HES.out.below HBk.out) (by omega)
          obtain ⟨c0, c1, c2⟩ := hxc k (by omega)
          have hEK : (edsOf u v G)[k]'(by omega) = edOf u v G[k] := by simp [edsOf]
          rw [hEK] at c0 c1 c2
          have htx := hF.text
          generalize G[k] = g at *
          have c0' : wr.cell? ⟨xg, xo + k * 3, none⟩ = some (.int .i64 (szs (u.take g.fo) : Nat)) := c0
          have c1' : wr.cell? ⟨xg, xo + k * 3 + 1, none⟩ = some (.int .i64 (szs (u.take g.eo) : Nat)) := c1
          generalize (edOf u v g).x = tx at *
          subst ex
          clear c0 c1 hxc hEK hEL
          have bF := hHU.out g.fo
          have bT := hHU.out g.eo
          have bV := hHV.out g.fn
          have bW := hHV.out g.en
          have ho2 := hF.o2
          have hn2 := hF.n2
          have ho1 := hF.o1
          have hn1 := hF.n1
          have hol := outs_len (i := g.fo) ho2
          have hFT : szs (u.take g.fo) ≤ szs (u.take g.eo) := szs_mono ho1
          have hwr5 := HBk.out.size
          have C1 : Hid (∀ w', Below w5.heap.size w5 w' → Calls Tryz.prog 14 #[.slice U u.length cu, .int .i64 (szs (u.take g.fo) : Nat), .int .i64 (szs (u.take g.eo) : Nat)] w' (CutL (outs u g.fo g.eo) w')) := fun w' hb' =>
            cuts_any u U cu g.fo g.eo w' ((HSU4.out.below hb').more hb'.size) (by omega) hcu (by omega) HFU.out ho1 ho2
          have C2 : Hid (∀ w', Below w5.heap.size w5 w' → Calls Tryz.prog 14 #[.slice V v.length cv, .int .i64 (szs (v.take g.fn) : Nat), .int .i64 (szs (v.take g.en) : Nat)] w' (CutL (outs v g.fn g.en) w')) := fun w' hb' =>
            cuts_any v V cv g.fn g.en w' ((HSV4.out.below hb').more hb'.size) (by omega) hcv (by omega) HFV.out hn1 hn2
          have E1 : Hid (∀ w', Below w5.heap.size w5 w' → Calls Tryz.prog 15 #[.slice U u.length cu, .int .i64 (szs (u.take g.fo) : Nat)] w' fun e w'' => e = .returned (.bool true) ∧ w' = w'') := fun w' hb' =>
            ends_at u U cu g.fo w' ((HSU4.out.below hb').more hb'.size) (by omega) hcu (by omega) (by omega)
          have E2 : Hid (∀ w', Below w5.heap.size w5 w' → Calls Tryz.prog 15 #[.slice U u.length cu, .int .i64 (szs (u.take g.eo) : Nat)] w' fun e w'' => e = .returned (.bool true) ∧ w' = w'') := fun w' hb' =>
            ends_at u U cu g.eo w' ((HSU4.out.below hb').more hb'.size) (by omega) hcu (by omega) (by omega)
          have HAP : Hid (0 < (outs u g.fo g.eo).length → 0 < (outs v g.fn g.en).length → ∃ x1 x2 x3 x4, (outs u g.fo g.eo)[0]? = some x1 ∧ (outs u g.fo g.eo)[(outs u g.fo g.eo).length - 1]? = some x2 ∧ (outs v g.fn g.en)[0]? = some x3 ∧ (outs v g.fn g.en)[(outs v g.fn g.en).length - 1]? = some x4 ∧ x1 ≠ x3 ∧ x2 ≠ x4) := fun h1 h2 => by
            have h := hF.apart h1 h2
            exact ⟨_, _, _, _, List.getElem?_eq_getElem _, List.getElem?_eq_getElem _, List.getElem?_eq_getElem _, List.getElem?_eq_getElem _, h.1, h.2⟩
          rw [← hol] at hLn hle
          have hlo : (outs u g.fo g.eo).length ≤ 400 := by omega
          have hli : (outs v g.fn g.en).length ≤ 400 := by have := outs_len (i := g.fn) hn2; omega
          clear hF hol
          generalize outs u g.fo g.eo = lo at *
          generalize outs v g.fn g.en = li at *
          generalize szs (u.take g.fo) = F at *
          generalize szs (u.take g.eo) = T at *
          generalize szs (v.take g.fn) = VF at *
          generalize szs (v.take g.en) = VT at *
          obtain ⟨mo2, hmo2⟩ : ∃ mo2 : Int, mo2 = (VT : Int) - (T : Int) := ⟨_, rfl⟩
          rw [← hmo2] at hLn
          obtain ⟨kp2, hkp2⟩ : ∃ kp2 : Nat, kp2 = kp - lo.length := ⟨_, rfl⟩
          rw [← hkp2] at hLn
          have HLn := Lib.hid hLn
          obtain ⟨d1, hd1⟩ : ∃ d1 : Int, d1 = (T : Int) - (F : Int) := ⟨_, rfl⟩
          obtain ⟨d2, hd2⟩ : ∃ d2 : Int, d2 = (tx.size : Int) - d1 := ⟨_, rfl⟩
          have e1 : IntKind.i64.wrap ((F : Int) + mo) = (VF : Int) := by rw [IntKind.wrap_i64]; omega
          have e2 : IntKind.i64.wrap ((VF : Int) + (tx.size : Int)) = (VT : Int) := by rw [IntKind.wrap_i64]; omega
          have e3 : IntKind.i64.wrap ((T : Int) - (F : Int)) = d1 := by rw [IntKind.wrap_i64]; omega
          have e4 : IntKind.i64.wrap ((tx.size : Int) - d1) = d2 := by rw [IntKind.wrap_i64]; omega
          have e5 : IntKind.i64.wrap (mo + d2) = mo2 := by rw [IntKind.wrap_i64]; omega
          have e6 : IntKind.i64.wrap ((kp : Int) - (lo.length : Int)) = (kp2 : Int) := by rw [IntKind.wrap_i64]; omega
          have hk2 : kp2 ≤ 400 := by omega
          have hm3 : -20000 ≤ mo2 := by omega
          have hm4 : mo2 ≤ 20000 := by omega
          have e7 : (k : Int) < (G.length : Int) := by omega
          have RX := Lib.hid (RowB.new wr 38 #[.int .i64 F, .int .i64 T, .string tx])
          have HBa := Lib.hid (HBk.out.alloc hwr5 (.cells #[.int .i64 F, .int .i64 T, .string tx] 38))
          clear hLn hmo hmo2 hkp2 hd1 hd2 htx hle hFT ho1 ho2 hn1 hn2 bF bT bV bW hm1 hm2 hkp
          have rx0 := RX.out.cell
          go_wp2_with fail
          refine (C1.out _ HBa.out).mono ?_
          rintro e w6 ⟨A6, c6, rfl, hS6, hc6, hb⟩
          have HB6 := Lib.hid (HBa.out.trans (hb.mono HBa.out.size))
          have RX6 := Lib.hid (RX.out.below hb RX.out.lt)
          have HS6 := Lib.hid hS6
          have rx6 := RX6.out.cell
          clear hb hS6 rx0
          go_wp2_with fail
          refine (C2.out _ HB6.out).mono ?_
          rintro e w7 ⟨A7, c7, rfl, hS7, hc7, hb⟩
          have HB7 := Lib.hid (HB6.out.trans (hb.mono HB6.out.size))
          have RX7 := Lib.hid (RX6.out.below hb RX6.out.lt)
          have HS67 := Lib.hid ((HS6.out.below hb).more hb.size)
          have HS7 := Lib.hid hS7
          have rx7 := RX7.out.cell
          clear hb hS7 rx6
          go_wp2_with fail
          refine (E1.out _ HB7.out).mono ?_
          rintro e w8 ⟨rfl, rfl⟩
          go_wp2_with fail
          refine (E2.out _ HB7.out).mono ?_
          rintro e w8 ⟨rfl, rfl⟩
          go_upto_region 14 with fail
          go_cut [50, 131] from 50 to 147 (fun s50 s131 wx => s50 = .int .i64 k ∧ s131 = .bool false ∧ ∃ nq, wx = w7.drewN nq)
          case first =>
            by_cases h1 : 0 < lo.length
            · by_cases h2 : 0 < li.length
              · obtain ⟨x1, x2, x3, x4, p1, p2, p3, p4, n1, n2⟩ := HAP.out h1 h2
                obtain ⟨_, p1⟩ := List.getElem?_eq_some_iff.1 p1
                obtain ⟨_, p2⟩ := List.getElem?_eq_some_iff.1 p2
                obtain ⟨_, p3⟩ := List.getElem?_eq_some_iff.1 p3
                obtain ⟨_, p4⟩ := List.getElem?_eq_some_iff.1 p4
                obtain ⟨g6, o6, e6', l6, q6⟩ := HS67.out h1
                obtain ⟨g7, o7, e7', l7, q7⟩ := HS7.out h2
                have a1 := q6 0 h1
                have a2 := q6 (lo.length - 1) (by omega)
                have a3 := q7 0 h2
                have a4 := q7 (li.length - 1) (by omega)
                rw [p1] at a1
                rw [p2] at a2
                rw [p3] at a3
                rw [p4] at a4
                have hd1 : (x1.toList == x3.toList) = false := beq_eq_false_iff_ne.2 (fun h => n1 ((str_eq _ _).1 h))
                have hd2 : (x2.toList == x4.toList) = false := beq_eq_false_iff_ne.2 (fun h => n2 ((str_eq _ _).1 h))
                have hd3 : decide (x1.toList = x3.toList) = false := decide_eq_false (fun h => n1 ((str_eq _ _).1 h))
                have hd4 : decide (x2.toList = x4.toList) = false := decide_eq_false (fun h => n2 ((str_eq _ _).1 h))
                subst e6' e7'
                clear p1 p2 p3 p4
                have t1 : ((lo.length : Int) - 1).toNat = lo.length - 1 := by omega
                have t2 : ((li.length : Int) - 1).toNat = li.length - 1 := by omega
                have t3 : IntKind.i64.wrap ((lo.length : Int) - 1) = (lo.length : Int) - 1 := by rw [IntKind.wrap_i64]; omega
                have t4 : IntKind.i64.wrap ((li.length : Int) - 1) = (li.length : Int) - 1 := by rw [IntKind.wrap_i64]; omega
                have t5 : (0 : Int) ≤ (lo.length : Int) - 1 := by omega
                have t6 : (0 : Int) ≤ (li.length : Int) - 1 := by omega
                have t7 : (lo.length : Int) - 1 < (lo.length : Int) := by omega
                have t8 : (li.length : Int) - 1 < (li.length : Int) := by omega
                have t9 : (lo.length : Int) > 0 := by omega
                have ta : (li.length : Int) > 0 := by omega
                rw [Nat.add_zero] at a1 a3
                clear q6 q7 n1 n2 rx7
                go_quiet (fail)
                go_wp2_with fail
                go_meet
                exact ⟨rfl, rfl, _, rfl⟩
              · have d3 : decide ((0 : Int) < (li.length : Int)) = false := by simpa using h2
                have d4 : decide (0 < li.length) = false := by simpa using h2
                have t9 : (lo.length : Int) > 0 := by omega
                clear rx7
                go_quiet (fail)
                go_wp2_with fail
                go_meet
                exact ⟨rfl, rfl, _, rfl⟩
            · have d3 : decide ((0 : Int) < (lo.length : Int)) = false := by simpa using h1
              have d4 : decide (0 < lo.length) = false := by simpa using h1
              clear rx7
              go_quiet (fail)
              go_wp2_with fail
              go_meet
              exact ⟨rfl, rfl, _, rfl⟩
          case rest =>
          obtain ⟨rfl, rfl, nq, rfl⟩ := hcut
          have HB8 := Lib.hid (below_drewN HB7.out nq)
          have rx8 : ∀ o, (w7.drewN nq).cell? ⟨wr.heap.size, o, none⟩ = #[Value.int .i64 F, .int .i64 T, .string tx][o]? := rx7
          generalize w7.drewN nq = w8 at *
          clear rx7 HS6 HS67 HS7 RX RX6 RX7
          go_wp2_with fail
          go_roundg (G.length - (k + 1))
          case measure => omega
          case rel => exact ⟨k + 1, kp2, mo2, rfl, rfl, by go_num, by omega, by omega, hk2, hm3, hm4, HLn.out, HB8.out⟩
        · obtain rfl : k = G.length := by omega
          have hst := HLk.out.stop
          rw [← HM.out] at hst
          subst hst
          have hnl : ¬ (G.length : Int) < (G.length : Int) := by omega
          clear HLk
          go_wp2_with fail
          have HBq := Lib.hid (HB5.out.trans (HBk.out.mono HB5.out.size))
          refine (awake_any wr (HT.out.step HBq.out) (HE.out.below HBq.out)).mono ?_
          rintro e w9 ⟨rfl, hb⟩
          have HB9 := Lib.hid (HBk.out.trans (hb.mono HBk.out.size))
          have HBz := Lib.hid (step_below HBq.out hb)
          clear hb
          go_wp2_with fail
          refine (KP.out _ HB9.out).mono ?_
          rintro e wz ⟨rfl, hb⟩
          have HBy := Lib.hid (step_below HBz.out hb)
          clear hb
          go_wp2_with fail
          go_ret
          exact ⟨by simp, HBy.out⟩
    · have hz : (la.length : Int) + (lb.length : Int) > 200 := by omega
      clear hn
      go_wp2_with fail
      refine (awake_any w1 (HT.out.step HB.out) (HE.out.below HB.out)).mono ?_
      rintro e w2 ⟨rfl, hb2⟩
      have HB2 := Lib.hid (step_below HB.out hb2)
      clear hb2
      go_wp2_with fail
      go_ret
      exact ⟨rfl, HB2.out⟩
end Go.Proofs.YthbmnnnlkgbieaaGreatDoor
