/- The law TermParts, walked. -/
import Derived.Test.YtifkjngclkklfaaGreatDoorMGy
import Derived.Test.YtifkjngclkklfaaGreatDoorMGz
import Derived.Test.YtifkjngclkklfaaGreatDoorMGr
import Derived.Test.YtifkjngclkklfaaGreatDoorMGu
import Derived.Test.YtifkjngclkklfaaGreatDoorWO
import Derived.Test.YtifkjngclkklfaaGreatDoorMGi
namespace Go.Proofs.YtifkjngclkklfaaGreatDoor
open Go.RowKit Go.Op
namespace Tm
set_option maxHeartbeats 16000000 in
set_option maxRecDepth 100000 in
theorem tparts_walk (w : World) (ns : List ByteArray) (P0 : Nat → Prop) (A0 : Option Addr) (c0 : Nat) (h0 : NV w P0 ns A0 c0) (ps : List Ty) (P1 : Nat → Prop) (A1 : Option Addr) (c1 : Nat) (h1 : TV w P1 ps A1 c1) (nm : ByteArray) (hT : Tabs w) (hE : Errs w) :
    Calls Tryz.prog 6 #[.slice A0 ns.length c0, .slice A1 ps.length c1, .string nm] w fun e w' => e = .returned (.bool true) ∧ Below w.heap.size w w' := by
  obtain ⟨n, hn⟩ : ∃ n, n = ns.length := ⟨_, rfl⟩
  obtain ⟨m, hm⟩ : ∃ m, m = ps.length := ⟨_, rfl⟩
  rw [← hn, ← hm]
  have HN := Lib.hid hn
  have HM := Lib.hid hm
  obtain ⟨P, hP⟩ : ∃ P : Nat → Prop, P = fun g => P0 g ∨ P1 g := ⟨_, rfl⟩
  have HNV : Hid (NV w P ns A0 c0) := h0.mono fun g h => by rw [hP]; exact .inl h
  have HTV : Hid (TV w P ps A1 c1) := h1.mono fun g h => by rw [hP]; exact .inr h
  have HT := Lib.hid hT
  have HE := Lib.hid hE
  have B0 : Hid (Below w.heap.size w w) := Below.refl _ _
  clear hn hm h0 h1 hT hE hP
  go_enter Tryz.func6, Tryz.ntmps6
  by_cases hn : n ≤ 30
  case neg =>
    have q1 : (n : Int) > 30 := by omega
    clear hn
    have CA := Lib.hid (awake9_any _ (Tabs.step HT.out B0.out) (HE.out.below B0.out))
    clear HNV HTV HN HM
    go_wp2_with fail
    refine CA.out.mono ?_
    rintro e w9 ⟨rfl, hb9⟩
    have HB9 := Lib.hid (B0.out.trans (hb9.mono B0.out.size))
    clear hb9 CA
    go_wp2_with fail
    (first | go_ret | go_ret2)
    exact ⟨rfl, HB9.out⟩
  by_cases hm : m ≤ 30
  case neg =>
    have q1 : ¬ (n : Int) > 30 := by omega
    have q2 : (m : Int) > 30 := by omega
    clear hn hm
    have CA := Lib.hid (awake9_any _ (Tabs.step HT.out B0.out) (HE.out.below B0.out))
    clear HNV HTV HN HM
    go_wp2_with fail
    refine CA.out.mono ?_
    rintro e w9 ⟨rfl, hb9⟩
    have HB9 := Lib.hid (B0.out.trans (hb9.mono B0.out.size))
    clear hb9 CA
    go_wp2_with fail
    (first | go_ret | go_ret2)
    exact ⟨rfl, HB9.out⟩
  by_cases hs : nm.size ≤ 100
  case neg =>
    have q1 : ¬ (n : Int) > 30 := by omega
    have q2 : ¬ (m : Int) > 30 := by omega
    have q3 : (nm.size : Int) > 100 := by omega
    clear hn hm hs
    have CA := Lib.hid (awake9_any _ (Tabs.step HT.out B0.out) (HE.out.below B0.out))
    clear HNV HTV HN HM
    go_wp2_with fail
    refine CA.out.mono ?_
    rintro e w9 ⟨rfl, hb9⟩
    have HB9 := Lib.hid (B0.out.trans (hb9.mono B0.out.size))
    clear hb9 CA
    go_wp2_with fail
    (first | go_ret | go_ret2)
    exact ⟨rfl, HB9.out⟩
  have q1 : ¬ (n : Int) > 30 := by omega
  have q2 : ¬ (m : Int) > 30 := by omega
  have q3 : ¬ (nm.size : Int) > 100 := by omega
  go_wp2_with fail
  go_loopg [7, 36] (m + 1) (fun kx s7 s36 wr => ∃ (i d : Nat), s7 = .int .i64 d ∧ s36 = .int .i64 i ∧ m - i ≤ kx ∧ i ≤ m ∧ d ≤ 1000001 ∧ Hid (d = depthL (ps.take i)) ∧ Hid (∀ p ∈ ps.take i, p.light = true ∧ p.right = true) ∧ Hid (Below w.heap.size w wr))
  case atStart => exact ⟨0, 0, rfl, rfl, by omega, by omega, by omega, by simp [Hid, depthL], by simp [Hid], Below.refl _ _⟩
  case round =>
    obtain ⟨i, d, rfl, rfl, hkx, hin, hd, HDD, HLR, HB⟩ := hrel
    by_cases hi : i < m
    · have hil : (i : Int) < (m : Int) := by omega
      obtain ⟨t, e⟩ := get_of_lt (l := ps) (i := i) (by rw [← HM.out]; exact hi)
      obtain ⟨g, o, An2, cn2, A2, c2, hA, hP, hg, hti, z0, z1, z2⟩ := (HTV.out.below HB.out).nth e
      have HDT := Lib.hid (depthL_take ps i t e)
      have HTK : Hid (ps.take (i + 1) = ps.take i ++ [t]) := by unfold Hid; rw [List.take_add_one, e]; rfl
      obtain ⟨j, hj⟩ : ∃ j, j = i + 1 := ⟨_, rfl⟩
      have b1 := bel1 wr (.cells (tarr t.kind An2 t.names.length cn2 A2 t.parts.length c2) 25)
      have RX := Lib.hid (RowB.new wr 25 (tarr t.kind An2 t.names.length cn2 A2 t.parts.length c2))
      have HTI := Lib.hid (hti.below b1)
      have HB1 := Lib.hid (HB.out.trans (b1.mono HB.out.size))
      obtain ⟨wx, hwx⟩ : ∃ wx, wx = wr.alloc (.cells (tarr t.kind An2 t.names.length cn2 A2 t.parts.length c2) 25) := ⟨_, rfl⟩
      rw [← hwx] at RX HTI HB1
      have C1 := Lib.hid (light_any wx t _ An2 cn2 A2 c2 HTI.out)
      obtain ⟨l, hl⟩ : ∃ l, l = t.light := ⟨_, rfl⟩
      have HL := Lib.hid hl
      rw [← hl] at C1
      obtain ⟨rr, hrr⟩ : ∃ rr, rr = t.right := ⟨_, rfl⟩
      have HRR := Lib.hid hrr
      have CR : Hid (l = true → ∀ w', Below wx.heap.size wx w' → Calls Tryz.prog 15 #[tv t An2 cn2 A2 c2] w' fun e w2 => e = .returned (.bool rr) ∧ Below w'.heap.size w' w2) := fun hlt w' hb => by
        rw [HRR.out]
        exact rright_any t (by have := (light_cnt (HL.out.symm.trans hlt)).1; omega) w' _ An2 cn2 A2 c2 (HTI.out.below hb)
      have CD : Hid (l = true → ∀ w', Below wx.heap.size wx w' → Calls Tryz.prog 16 #[tv t An2 cn2 A2 c2] w' fun e w2 => e = .returned (.int .i64 t.depth) ∧ Below w'.heap.size w' w2) := fun hlt w' hb =>
        pdepth_any t (by have := (light_cnt (HL.out.symm.trans hlt)).1; omega) w' _ An2 cn2 A2 c2 (HTI.out.below hb)
      have HDB : Hid (l = true → t.depth ≤ 30) := fun hlt => (light_cnt (HL.out.symm.trans hlt)).2
      obtain ⟨dt, hdt⟩ : ∃ dt, dt = t.depth := ⟨_, rfl⟩
      rw [← hdt] at CD HDT HDB
      subst hA
      have HTT : Hid (l = true → rr = true → ∀ p ∈ ps.take (i + 1), p.light = true ∧ p.right = true) := fun h1 h2 p hp => by
        rw [HTK.out] at hp
        rcases List.mem_append.1 hp with hp | hp
        · exact HLR.out p hp
        · obtain rfl := List.mem_singleton.1 hp
          exact ⟨HL.out.symm.trans h1, HRR.out.symm.trans h2⟩
      clear HL HRR hl hrr hdt HTK HTI
      obtain ⟨kt, nt, pt⟩ := t
      simp only [tarr, tv, kind_mk, names_mk, parts_mk] at z0 z1 z2 C1 CR CD RX hwx
      clear e hti b1
      have rx := RX.out.cell
      go_wp2_with fail
      rw [← hwx]
      refine C1.out.mono ?_
      rintro e w2 ⟨rfl, h2⟩
      have HB2 := Lib.hid (HB1.out.trans (h2.mono HB1.out.size))
      have HX2 := Lib.hid h2
      have R2 := Lib.hid (RX.out.below h2 RX.out.lt)
      have r2 := R2.out.cell
      clear h2 C1 z0 z1 z2 rx hwx
      cases l with
      | false =>
        clear CR CD HDB HTT
        have CA := Lib.hid (awake9_any _ (Tabs.step HT.out HB2.out) (HE.out.below HB2.out))
        go_wp2_with fail
        refine CA.out.mono ?_
        rintro e w9 ⟨rfl, hb9⟩
        have HB9 := Lib.hid (HB2.out.trans (hb9.mono HB2.out.size))
        clear hb9 CA
        go_wp2_with fail
        (first | go_ret | go_ret2)
        exact ⟨rfl, HB9.out⟩
      | true =>
        have C2 := Lib.hid (CR.out (by first | rfl | trivial) w2 HX2.out)
        clear CR
        go_wp2_with fail
        refine C2.out.mono ?_
        rintro e w3 ⟨rfl, h3⟩
        have HB3 := Lib.hid (HB2.out.trans (h3.mono HB2.out.size))
        have HX3 := Lib.hid (HX2.out.trans (h3.mono HX2.out.size))
        have R3 := Lib.hid (R2.out.below h3 R2.out.lt)
        have r3 := R3.out.cell
        clear h3 C2 r2
        cases rr with
        | false =>
          clear CD HDB HTT
          have CA := Lib.hid (awake9_any _ (Tabs.step HT.out HB3.out) (HE.out.below HB3.out))
          go_wp2_with fail
          refine CA.out.mono ?_
          rintro e w9 ⟨rfl, hb9⟩
          have HB9 := Lib.hid (HB3.out.trans (hb9.mono HB3.out.size))
          clear hb9 CA
          go_wp2_with fail
          (first | go_ret | go_ret2)
          exact ⟨rfl, HB9.out⟩
        | true =>
          have C3 := Lib.hid (CD.out (by first | rfl | trivial) w3 HX3.out)
          have hdb := HDB.out (by first | rfl | trivial)
          have HTT2 := Lib.hid (HTT.out (by first | rfl | trivial) (by first | rfl | trivial))
          clear CD HDB HTT
          go_wp2_with fail
          refine C3.out.mono ?_
          rintro e w4 ⟨rfl, h4⟩
          have HB4 := Lib.hid (HB3.out.trans (h4.mono HB3.out.size))
          clear h4 C3 r3
          go_wp2_with fail
          go_roundg (m - j)
          case measure => omega
          case rel => exact ⟨j, max d dt, by first | rfl | (congr 1; omega) | simp, by rw [hj]; go_num, by omega, by omega, by omega, by have := HDD.out; have := HDT.out; show _ = _; rw [hj]; omega, by rw [hj]; exact HTT2.out, HB4.out⟩
    · have hil : ¬ (i : Int) < (m : Int) := by omega
      obtain rfl : m = i := by omega
      have h1 := HDD.out
      have h2 := HLR.out
      rw [List.take_of_length_le (by rw [← HM.out]; exact Nat.le_refl _)] at h1 h2
      have HD := Lib.hid h1
      have HP := Lib.hid h2
      clear HDD HLR h1 h2 hi
      have C0 := record_any wr ns ps P A0 c0 A1 c1 (HNV.out.below HB.out) (HTV.out.below HB.out) (by rw [← HN.out]; omega)
      rw [← HN.out, ← HM.out] at C0
      have CREC := Lib.hid C0
      clear C0
      go_wp2_with fail
      refine CREC.out.mono ?_
      rintro e w2 ⟨t, An, cn, A, c, z, rfl, hti, h2, hz⟩
      have b3 := bel1 w2 (.cells (tarr t.kind An t.names.length cn A t.parts.length c) 25)
      have RX := Lib.hid (RowB.new w2 25 (tarr t.kind An t.names.length cn A t.parts.length c))
      have HTI := Lib.hid (hti.below b3)
      obtain ⟨w3, hw3⟩ : ∃ w3, w3 = w2.alloc (.cells (tarr t.kind An t.names.length cn A t.parts.length c) 25) := ⟨_, rfl⟩
      rw [← hw3] at b3 RX HTI
      have HB3 := Lib.hid (HB.out.trans ((h2.trans (b3.mono h2.size)).mono HB.out.size))
      have HW3 := Lib.hid hw3
      clear hti h2 b3 CREC hw3
      have hz' : (z = 1 ∨ z = 40) ∨ (z = 0 ∧ ns.length = ps.length ∧ IsRec ns ps t) := by
        rcases hz with h | h | h
        · exact .inl (.inl h.1)
        · exact .inl (.inr h.1)
        · exact .inr ⟨h.1, h.2.1, h.2.2.2⟩
      clear hz
      rcases hz' with hz | ⟨rfl, hlen, hrec⟩
      · have e3 := HW3.out
        obtain ⟨k3, n3, p3⟩ := t
        simp only [tarr, kind_mk, names_mk, parts_mk] at e3
        clear HTI RX HW3
        rcases hz with rfl | rfl
        all_goals
          go_wp2_with fail
          rw [← e3]
          have CA := Lib.hid (awake9_any _ (Tabs.step HT.out HB3.out) (HE.out.below HB3.out))
          go_wp2_with fail
          refine CA.out.mono ?_
          rintro e w9 ⟨rfl, hb9⟩
          have HB9 := Lib.hid (HB3.out.trans (hb9.mono HB3.out.size))
          clear hb9 CA
          go_wp2_with fail
          (first | go_ret | go_ret2)
          exact ⟨rfl, HB9.out⟩
      have HLEN := Lib.hid hlen
      have HREC := Lib.hid hrec
      have hcn : t.cnt ≤ 1000001 := by
        have := hrec.cnt (n := 400) fun p hp => by
          have h := HP.out p hp
          exact light_right h.1 h.2
        rw [← HN.out] at this
        have h2 : n * 400 ≤ 30 * 400 := Nat.mul_le_mul_right _ hn
        omega
      have HCN := Lib.hid hcn
      have C2 := Lib.hid (rright_any t hcn w3 _ An cn A c HTI.out)
      have hfx : (∀ i x p, ns[i]? = some x → ps[i]? = some p → t.field x = some p) ∧ (t.field nm).isSome = ns.any (fun x => decide (x = nm)) ∧ t.depth = depthL ps + 1 := ⟨fun i x p e e' => hrec.at hlen e e', hrec.has hlen nm, hrec.depth hlen⟩
      have HFX := Lib.hid hfx
      have HTN : Hid (t.names.length ≤ 1000001) := by have := hrec.len_le; rw [← HN.out] at this; unfold Hid; omega
      obtain ⟨rr, hrr⟩ : ∃ rr, rr = t.right := ⟨_, rfl⟩
      have HRR := Lib.hid hrr
      rw [← hrr] at C2
      have e3 := HW3.out
      have CF : Hid (rr = true → ∀ w' x, Below w3.heap.size w3 w' → Calls Tryz.prog 22 #[tv t An cn A c, .string x] w' (FieldQ (fun g => P g ∨ wr.heap.size ≤ g) (t.field x) w')) := fun hr w' x hb => by
        have hh := (TI_iff.1 (HTI.out.below hb))
        have := pfield_any w' t.kind t.names t.parts x _ An cn A c hh.1 hh.2 HTN.out (by rw [← Ty.eta]; exact HRR.out.symm.trans hr)
        rw [← Ty.eta] at this
        exact this
      have CD : Hid (∀ w', Below w3.heap.size w3 w' → Calls Tryz.prog 16 #[tv t An cn A c] w' fun e w2 => e = .returned (.int .i64 t.depth) ∧ Below w'.heap.size w' w2) := fun w' hb => pdepth_any t HCN.out w' _ An cn A c (HTI.out.below hb)
      obtain ⟨dt, hdt⟩ : ∃ dt, dt = t.depth := ⟨_, rfl⟩
      rw [← hdt] at CD HFX
      obtain ⟨fd, hfd⟩ : ∃ fd, fd = t.field := ⟨_, rfl⟩
      rw [← hfd] at CF HFX
      clear hlen hrec hcn hfx hrr hdt hfd HREC HCN HTN HRR HTI
      obtain ⟨k3, n3, p3⟩ := t
      simp only [tarr, tv, kind_mk, names_mk, parts_mk] at e3 RX C2 CF CD
      have rx := RX.out.cell
      clear HW3
      go_wp2_with fail
      rw [← e3]
      refine C2.out.mono ?_
      rintro e w4 ⟨rfl, h4⟩
      have HX4 := Lib.hid h4
      have HB4 := Lib.hid (HB3.out.trans (h4.mono HB3.out.size))
      have R4 := Lib.hid (RX.out.below h4 RX.out.lt)
      clear h4 C2 rx e3
      cases rr with
      | false =>
        clear CF CD HFX
        have CA := Lib.hid (awake9_any _ (Tabs.step HT.out HB4.out) (HE.out.below HB4.out))
        go_wp2_with fail
        refine CA.out.mono ?_
        rintro e w9 ⟨rfl, hb9⟩
        have HB9 := Lib.hid (HB4.out.trans (hb9.mono HB4.out.size))
        clear hb9 CA
        go_wp2_with fail
        (first | go_ret | go_ret2)
        exact ⟨rfl, HB9.out⟩
      | true =>
      have CF2 := Lib.hid (CF.out (by first | rfl | trivial))
      clear CF
      go_wp2_with fail
      go_loopg [12, 70] (n + 1) (fun kx s12 s70 wq => ∃ (i : Nat) (q : Bool), s70 = .int .i64 i ∧ s12 = .bool q ∧ n - i ≤ kx ∧ i ≤ n ∧ Hid (q = (ns.take i).any (fun x => decide (x = nm))) ∧ Hid (Below w4.heap.size w4 wq))
      case atStart => exact ⟨0, false, rfl, rfl, by omega, by omega, by simp [Hid], Below.refl _ _⟩
      case round =>
        obtain ⟨i, q, rfl, rfl, hkx2, hin2, HQ, HBq⟩ := hrel
        have HBX := Lib.hid (HX4.out.trans (HBq.out.mono HX4.out.size))
        have HBw := Lib.hid (HB3.out.trans (HBX.out.mono HB3.out.size))
        by_cases hi2 : i < n
        · have hil2 : (i : Int) < (n : Int) := by omega
          obtain ⟨x, e⟩ := get_lt (l := ns) (i := i) (by rw [← HN.out]; exact hi2)
          obtain ⟨p, e'⟩ := get_lt (l := ps) (i := i) (by rw [← HLEN.out, ← HN.out]; exact hi2)
          obtain ⟨g0, o0, hA0, _, hg0, y, _⟩ := (HNV.out.below HBw.out).nth e
          obtain ⟨g1, o1, An2, cn2, A2, c2, hA1, hP1, hg1, hti, v0, v1, v2⟩ := (HTV.out.below HBw.out).nth e'
          have hmemp := HP.out p (List.mem_of_getElem? e')
          have HCP := Lib.hid (light_right hmemp.1 hmemp.2)
          have C5 := CF2.out wr x HBX.out
          rw [HFX.out.1 i x p e e'] at C5
          have C5' := Lib.hid C5
          have HTK : Hid ((ns.take (i + 1)).any (fun y => decide (y = nm)) = (q || decide (x = nm))) := by
            unfold Hid
            rw [List.take_add_one, e, List.any_append, ← HQ.out]
            simp
          obtain ⟨bb, hbb⟩ : ∃ bb, bb = decide (x = nm) := ⟨_, rfl⟩
          have hxe : (x.toList == nm.toList) = bb := by rw [beq_ba, hbb]
          rw [← hbb] at HTK
          obtain ⟨j, hj⟩ : ∃ j, j = i + 1 := ⟨_, rfl⟩
          rw [← hj] at HTK
          have HTI := Lib.hid hti
          have im : (i : Int) < (m : Int) := by have := HLEN.out; have := HN.out; have := HM.out; omega
          have him : i < m := by omega
          subst hA0
          subst hA1
          obtain ⟨k5, n5, p5⟩ := p
          simp only [kind_mk, names_mk, parts_mk] at v0 v1 v2
          have r4 := (R4.out.below HBq.out R4.out.lt).cell
          clear e e' hti hmemp C5 hbb HQ
          go_wp2_with fail
          refine C5'.out.mono ?_
          rintro e w5 ⟨h5, An5, cn5, A5, c5, rfl, ht5⟩
          try simp only [tv, kind_mk, names_mk, parts_mk]
          have b6 := bel1 w5 (.cells #[.int .i64 k5, .slice An5 n5.length cn5, .slice A5 p5.length c5] 25)
          have RB := Lib.hid (RowB.new w5 25 #[.int .i64 k5, .slice An5 n5.length cn5, .slice A5 p5.length c5])
          obtain ⟨w6, hw6⟩ : ∃ w6, w6 = w5.alloc (.cells #[.int .i64 k5, .slice An5 n5.length cn5, .slice A5 p5.length c5] 25) := ⟨_, rfl⟩
          rw [← hw6] at b6 RB
          have h56 := h5.trans (b6.mono h5.size)
          have HBq6 := Lib.hid (HBq.out.trans (h56.mono HBq.out.size))
          have y0 := (h56.cell (p := ⟨g1, o1 + i * 3, none⟩) hg1).trans v0
          have y1 := (h56.cell (p := ⟨g1, o1 + i * 3 + 1, none⟩) hg1).trans v1
          have y2 := (h56.cell (p := ⟨g1, o1 + i * 3 + 2, none⟩) hg1).trans v2
          have hg6 : g1 < w6.heap.size := Nat.lt_of_lt_of_le hg1 h56.size
          have bx := RB.out.cell
          have lbx := RB.out.lt
          have D6 : Below w6.heap.size w6 w6.drew := Below.drew (Below.refl _ _)
          have C9 := rsame_any (.mk k5 n5 p5) (by have := HCP.out; omega) (.mk k5 n5 p5) (by have := HCP.out; omega) w6.drew _ _ _ _ _ _ _ _ _ _ ((ht5.below b6).below D6) ((HTI.out.below h56).below D6)
          rw [same_refl] at C9
          have CS := Lib.hid C9
          try simp only [tv, kind_mk, names_mk, parts_mk] at CS
          have HW6 := Lib.hid hw6
          clear h5 h56 b6 hw6 C9 C5' v0 v1 v2 ht5 r4
          go_upto_region 19 with fail
          have e6 := HW6.out
          rw [← e6]
          clear e6 HW6
          refine wp_region_G (S := SG (fun w' => Below w6.heap.size w6 w') 99 (fun _ => True) 99 (fun _ => True)) (by kernel_rfl) ⟨D6, fun _ => trivial, fun _ => trivial⟩ (fun hS => ?_)
          refine wpG_take0 (i := 0) (v := ?v1) rfl (by kernel_rfl) (by kernel_rfl) (by kernel_rfl) (by decide) (by decide) (fun _ _ _ h => h) hS (Or.inl ⟨by rfl, ?hy1⟩) ?rest1
          case hy1 => (intro w' hw; have u0 := fun j => (hw.cell (p := ⟨w5.heap.size, j, none⟩) lbx).trans (bx j); have u3 := (hw.cell (p := ⟨g1, o1 + i * 3, none⟩) hg6).trans y0; have u4 := (hw.cell (p := ⟨g1, o1 + i * 3 + 1, none⟩) hg6).trans y1; have u5 := (hw.cell (p := ⟨g1, o1 + i * 3 + 2, none⟩) hg6).trans y2; go_simp; try with_reducible rfl)
          replace hS := SG.set (i := 0) (by decide) (by decide) hS
          try simp only [Act.put, List.setIfInBounds_toArray, List.set_cons_zero, List.set_cons_succ]
          refine wpG_take0 (i := 1) (v := ?v2) rfl (by kernel_rfl) (by kernel_rfl) (by kernel_rfl) (by decide) (by decide) (fun _ _ _ h => h) hS (Or.inl ⟨by rfl, ?hy2⟩) ?rest2
          case hy2 => (intro w' hw; have u0 := fun j => (hw.cell (p := ⟨w5.heap.size, j, none⟩) lbx).trans (bx j); have u3 := (hw.cell (p := ⟨g1, o1 + i * 3, none⟩) hg6).trans y0; have u4 := (hw.cell (p := ⟨g1, o1 + i * 3 + 1, none⟩) hg6).trans y1; have u5 := (hw.cell (p := ⟨g1, o1 + i * 3 + 2, none⟩) hg6).trans y2; go_simp; try with_reducible rfl)
          replace hS := SG.set (i := 1) (by decide) (by decide) hS
          try simp only [Act.put, List.setIfInBounds_toArray, List.set_cons_zero, List.set_cons_succ]
          refine wpG_take0 (i := 2) (v := ?v3) rfl (by kernel_rfl) (by kernel_rfl) (by kernel_rfl) (by decide) (by decide) (fun _ _ _ h => h) hS (Or.inl ⟨by rfl, ?hy3⟩) ?rest3
          case hy3 => (intro w' hw; have u0 := fun j => (hw.cell (p := ⟨w5.heap.size, j, none⟩) lbx).trans (bx j); have u3 := (hw.cell (p := ⟨g1, o1 + i * 3, none⟩) hg6).trans y0; have u4 := (hw.cell (p := ⟨g1, o1 + i * 3 + 1, none⟩) hg6).trans y1; have u5 := (hw.cell (p := ⟨g1, o1 + i * 3 + 2, none⟩) hg6).trans y2; go_simp; try with_reducible rfl)
          replace hS := SG.set (i := 2) (by decide) (by decide) hS
          try simp only [Act.put, List.setIfInBounds_toArray, List.set_cons_zero, List.set_cons_succ]
          refine wpG_take0 (i := 3) (v := ?v4) rfl (by kernel_rfl) (by kernel_rfl) (by kernel_rfl) (by decide) (by decide) (fun _ _ _ h => h) hS (Or.inl ⟨by rfl, ?hy4⟩) ?rest4
          case hy4 => (intro w' hw; have u0 := fun j => (hw.cell (p := ⟨w5.heap.size, j, none⟩) lbx).trans (bx j); have u3 := (hw.cell (p := ⟨g1, o1 + i * 3, none⟩) hg6).trans y0; have u4 := (hw.cell (p := ⟨g1, o1 + i * 3 + 1, none⟩) hg6).trans y1; have u5 := (hw.cell (p := ⟨g1, o1 + i * 3 + 2, none⟩) hg6).trans y2; go_simp; try with_reducible rfl)
          replace hS := SG.set (i := 3) (by decide) (by decide) hS
          try simp only [Act.put, List.setIfInBounds_toArray, List.set_cons_zero, List.set_cons_succ]
          refine wpG_take0 (i := 4) (v := ?v5) rfl (by kernel_rfl) (by kernel_rfl) (by kernel_rfl) (by decide) (by decide) (fun _ _ _ h => h) hS (Or.inl ⟨by rfl, ?hy5⟩) ?rest5
          case hy5 => (intro w' hw; have u0 := fun j => (hw.cell (p := ⟨w5.heap.size, j, none⟩) lbx).trans (bx j); have u3 := (hw.cell (p := ⟨g1, o1 + i * 3, none⟩) hg6).trans y0; have u4 := (hw.cell (p := ⟨g1, o1 + i * 3 + 1, none⟩) hg6).trans y1; have u5 := (hw.cell (p := ⟨g1, o1 + i * 3 + 2, none⟩) hg6).trans y2; go_simp; try with_reducible rfl)
          replace hS := SG.set (i := 4) (by decide) (by decide) hS
          try simp only [Act.put, List.setIfInBounds_toArray, List.set_cons_zero, List.set_cons_succ]
          refine wpG_take0 (i := 5) (v := ?v6) rfl (by kernel_rfl) (by kernel_rfl) (by kernel_rfl) (by decide) (by decide) (fun _ _ _ h => h) hS (Or.inl ⟨by rfl, ?hy6⟩) ?rest6
          case hy6 => (intro w' hw; have u0 := fun j => (hw.cell (p := ⟨w5.heap.size, j, none⟩) lbx).trans (bx j); have u3 := (hw.cell (p := ⟨g1, o1 + i * 3, none⟩) hg6).trans y0; have u4 := (hw.cell (p := ⟨g1, o1 + i * 3 + 1, none⟩) hg6).trans y1; have u5 := (hw.cell (p := ⟨g1, o1 + i * 3 + 2, none⟩) hg6).trans y2; go_simp; try with_reducible rfl)
          replace hS := SG.set (i := 5) (by decide) (by decide) hS
          try simp only [Act.put, List.setIfInBounds_toArray, List.set_cons_zero, List.set_cons_succ]
          refine wpG_take0 (i := 6) (v := ?v7) rfl (by kernel_rfl) (by kernel_rfl) (by kernel_rfl) (by decide) (by decide) (fun _ _ _ h => h) hS (Or.inl ⟨by rfl, ?hy7⟩) ?rest7
          case hy7 => (intro w' hw; have u0 := fun j => (hw.cell (p := ⟨w5.heap.size, j, none⟩) lbx).trans (bx j); have u3 := (hw.cell (p := ⟨g1, o1 + i * 3, none⟩) hg6).trans y0; have u4 := (hw.cell (p := ⟨g1, o1 + i * 3 + 1, none⟩) hg6).trans y1; have u5 := (hw.cell (p := ⟨g1, o1 + i * 3 + 2, none⟩) hg6).trans y2; go_simp; try with_reducible rfl)
          replace hS := SG.set (i := 6) (by decide) (by decide) hS
          try simp only [Act.put, List.setIfInBounds_toArray, List.set_cons_zero, List.set_cons_succ]
          refine wpG_take0 (i := 7) (v := ?v8) rfl (by kernel_rfl) (by kernel_rfl) (by kernel_rfl) (by decide) (by decide) (fun _ _ _ h => h) hS (Or.inl ⟨by rfl, ?hy8⟩) ?rest8
          case hy8 => (intro w' hw; have u0 := fun j => (hw.cell (p := ⟨w5.heap.size, j, none⟩) lbx).trans (bx j); have u3 := (hw.cell (p := ⟨g1, o1 + i * 3, none⟩) hg6).trans y0; have u4 := (hw.cell (p := ⟨g1, o1 + i * 3 + 1, none⟩) hg6).trans y1; have u5 := (hw.cell (p := ⟨g1, o1 + i * 3 + 2, none⟩) hg6).trans y2; go_simp; try with_reducible rfl)
          replace hS := SG.set (i := 7) (by decide) (by decide) hS
          try simp only [Act.put, List.setIfInBounds_toArray, List.set_cons_zero, List.set_cons_succ]
          refine wpG_ready (rs := [8]) (by kernel_rfl) (by simp) ?_
          refine RG.consG rfl rfl (fun K hK => ?_) RG.nil
          go_simp
          refine CS.out.mono ?_
          rintro e x1 ⟨rfl, hx1⟩
          go_wp2_with fail
          have HG1 := Lib.hid (D6.trans (hx1.mono D6.size))
          clear hx1
          refine hK.out _ _ ⟨HG1.out, fun _ => trivial, fun _ => trivial⟩ (fun hS => ?_)
          clear hK K
          try simp only [Act.put, List.setIfInBounds_toArray, List.set_cons_zero, List.set_cons_succ]
          refine wpG_take0 (i := 9) (v := ?v9) rfl (by kernel_rfl) (by kernel_rfl) (by kernel_rfl) (by decide) (by decide) (fun _ _ _ h => h) hS (Or.inl ⟨by rfl, ?hy9⟩) ?rest9
          case hy9 => (intro w' hw; go_simp; try with_reducible rfl)
          replace hS := SG.set (i := 9) (by decide) (by decide) hS
          try simp only [Act.put, List.setIfInBounds_toArray, List.set_cons_zero, List.set_cons_succ]
          refine wpG_take0 (i := 10) (v := ?v10) rfl (by kernel_rfl) (by kernel_rfl) (by kernel_rfl) (by decide) (by decide) (fun _ _ _ h => h) hS (Or.inl ⟨by rfl, ?hy10⟩) ?rest10
          case hy10 => (intro w' hw; go_simp; try with_reducible rfl)
          replace hS := SG.set (i := 10) (by decide) (by decide) hS
          try simp only [Act.put, List.setIfInBounds_toArray, List.set_cons_zero, List.set_cons_succ]
          refine wpG_done (by kernel_rfl) ?_ _
          have HBF := Lib.hid (HBq6.out.trans (HG1.out.mono HBq6.out.size))
          clear hS CS bx lbx D6 y0 y1 y2 HG1 HTI
          cases q with
          | true =>
            go_wp2_with fail
            go_roundg (n - j)
            case measure => omega
            case rel => exact ⟨j, true, by rw [hj]; go_num, rfl, by omega, by omega, by rw [HTK.out]; rfl, HBF.out⟩
          | false =>
            go_wp2_with fail
            go_roundg (n - j)
            case measure => omega
            case rel => exact ⟨j, bb, by rw [hj]; go_num, by first | rfl | simp, by omega, by omega, by rw [HTK.out]; rfl, HBF.out⟩
        · have hil2 : ¬ (i : Int) < (n : Int) := by omega
          obtain rfl : n = i := by omega
          have hQ := HQ.out
          rw [List.take_of_length_le (by rw [← HN.out]; exact Nat.le_refl _), ← HFX.out.2.1] at hQ
          have HQ2 := Lib.hid hQ
          have C6 := Lib.hid (CF2.out wr nm HBX.out)
          obtain ⟨fv, hfv⟩ : ∃ fv, fv = fd nm := ⟨_, rfl⟩
          rw [← hfv] at C6 HQ2
          have hdd : dt = d + 1 := by rw [HFX.out.2.2, HD.out]
          have HDD := Lib.hid hdd
          have r4 := (R4.out.below HBq.out R4.out.lt).cell
          clear HQ hQ hfv hdd hi2 CF2
          have hcl : (fnOf ps dyn).cnt ≤ 1000001 := by
            have h := cntL_le (l := ps) (n := 400) fun p hp => light_right (HP.out p hp).1 (HP.out p hp).2
            rw [← HM.out] at h
            have h2 : m * 400 ≤ 30 * 400 := Nat.mul_le_mul_right _ hm
            have key : ∀ l : List Ty, cntL (l ++ [dyn]) = cntL l + 1 := by
              intro l
              induction l with
              | nil => simp [cntL, dyn, Ty.cnt]
              | cons a l ih => rw [List.cons_append, cntL, cntL, ih]; omega
            rw [fnOf, Ty.cnt, key]
            simp only [List.length_nil]
            omega
          have HCL := Lib.hid hcl
          clear hcl
          go_wp2_with fail
          refine C6.out.mono ?_
          rintro e w5 hq5
          have hv : ∃ (a : Int) (X1 : Option Addr) (l1 d1 : Nat) (X2 : Option Addr) (l2 d2 : Nat), e = .returned (.tuple #[.agg #[.int .i64 a, .slice X1 l1 d1, .slice X2 l2 d2], .bool fv.isSome]) := by
            cases fv with
            | none => exact ⟨0, none, 0, 0, none, 0, 0, hq5.2⟩
            | some p =>
              obtain ⟨An, cn, A, c, he, _⟩ := hq5.2
              exact ⟨p.kind, An, p.names.length, cn, A, p.parts.length, c, he⟩
          have h5 := hq5.1
          obtain ⟨a, X1, l1, d1, X2, l2, d2, rfl⟩ := hv
          have b6 := bel1 w5 (.cells #[.int .i64 a, .slice X1 l1 d1, .slice X2 l2 d2] 25)
          obtain ⟨w6, hw6⟩ : ∃ w6, w6 = w5.alloc (.cells #[.int .i64 a, .slice X1 l1 d1, .slice X2 l2 d2] 25) := ⟨_, rfl⟩
          rw [← hw6] at b6
          have h56 := h5.trans (b6.mono h5.size)
          have HX6 := Lib.hid (HBX.out.trans (h56.mono HBX.out.size))
          have HBw6 := Lib.hid (HB3.out.trans (HX6.out.mono HB3.out.size))
          have C7' := func_any w6 dyn ps (fun _ => True) P none 0 none 0 A1 c1 (TI_iff.2 ⟨NV.nil _ _ _ _, TV.nil _ _ _ _⟩) (HTV.out.below HBw6.out) (by rw [← HM.out]; omega)
          rw [← HM.out] at C7'
          have C7 := Lib.hid C7'
          try simp only [tv, dyn, kind_mk, names_mk, parts_mk, List.length_nil] at C7
          have hqq := HQ2.out
          clear hq5 h5 b6 h56 C6 C7' r4
          generalize fv.isSome = ok at *
          subst hqq
          go_wp2_with fail
          rw [← hw6]
          refine C7.out.mono ?_
          rintro e w7 ⟨h7, An7, cn7, A7, c7, rfl, ht7⟩
          have hfo : fnOf ps (.mk 0 [] []) = .mk 4 [] (ps ++ [dyn]) := rfl
          rw [hfo] at ht7 ⊢
          have hfd : (Ty.mk 4 [] (ps ++ [dyn])).depth = max d 1 + 1 := by rw [HD.out]; exact fnOf_depth ps
          have hcl : (Ty.mk 4 [] (ps ++ [dyn])).cnt ≤ 1000001 := HCL.out
          obtain ⟨fl, hfl⟩ : ∃ fl, fl = ps ++ [dyn] := ⟨_, rfl⟩
          rw [← hfl] at ht7 hfd hcl ⊢
          clear hfl hfo HCL
          try simp only [tv, kind_mk, names_mk, parts_mk, List.length_nil]
          have b8 := bel1 w7 (.cells #[.int .i64 4, .slice An7 0 cn7, .slice A7 fl.length c7] 25)
          have RF := Lib.hid (RowB.new w7 25 #[.int .i64 4, .slice An7 0 cn7, .slice A7 fl.length c7])
          obtain ⟨w8, hw8⟩ : ∃ w8, w8 = w7.alloc (.cells #[.int .i64 4, .slice An7 0 cn7, .slice A7 fl.length c7] 25) := ⟨_, rfl⟩
          rw [← hw8] at b8 RF
          have h78 := h7.trans (b8.mono h7.size)
          have HX8 := Lib.hid (HX6.out.trans (h78.mono HX6.out.size))
          have HB8 := Lib.hid (HB3.out.trans (HX8.out.mono HB3.out.size))
          have HTF := Lib.hid (ht7.below b8)
          have CA := Lib.hid (awake9_any w8 (Tabs.step HT.out HB8.out) (HE.out.below HB8.out))
          have CFD : Hid (∀ w', Below w8.heap.size w8 w' → Calls Tryz.prog 16 #[.agg #[.int .i64 4, .slice An7 0 cn7, .slice A7 fl.length c7]] w' fun e w2 => e = .returned (.int .i64 ((max d 1 + 1 : Nat) : Int)) ∧ Below w'.heap.size w' w2) := fun w' hb => by
            have := pdepth_any (.mk 4 [] fl) hcl w' _ An7 cn7 A7 c7 (HTF.out.below hb)
            rw [hfd] at this
            exact this
          clear h7 ht7 C7 b8 h78 hfd hcl hw6 HTF
          go_wp2_with fail
          rw [← hw8]
          refine CA.out.mono ?_
          rintro e w9 ⟨rfl, h9⟩
          have HX9 := Lib.hid (HX8.out.trans (h9.mono HX8.out.size))
          have HB9 := Lib.hid (HB3.out.trans (HX9.out.mono HB3.out.size))
          have HY9 := Lib.hid h9
          have C10 := Lib.hid (CD.out w9 HX9.out)
          have r9 := (RX.out.below HX9.out RX.out.lt).cell
          clear h9 CA hw8
          go_wp2_with fail
          refine C10.out.mono ?_
          rintro e w10 ⟨rfl, h10⟩
          have HB10 := Lib.hid (HB9.out.trans (h10.mono HB9.out.size))
          have h8 := HY9.out.trans (h10.mono HY9.out.size)
          have C11 := Lib.hid (CFD.out w10 h8)
          have rf := (RF.out.below h8 RF.out.lt).cell
          have hddt := HDD.out
          clear h10 C10 h8 r9 CFD CD
          subst hddt
          go_wp2_with fail
          refine C11.out.mono ?_
          rintro e w11 ⟨rfl, h11⟩
          have HB11 := Lib.hid (HB10.out.trans (h11.mono HB10.out.size))
          clear h11 C11 rf
          go_wp2_with fail
          (first | go_ret | go_ret2)
          refine ⟨?_, HB11.out⟩
          have hmx : (((max d 1 : Nat) : Int) + 1 == max (d : Int) 1 + 1) = true := by rw [beq_iff_eq]; omega
          exact congrArg (fun b => Ending.returned (.bool b)) hmx
end Tm
end Go.Proofs.YtifkjngclkklfaaGreatDoor
