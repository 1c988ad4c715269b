/- The law ValueParts, walked. -/
import Derived.Test.YtbjlhdjcdinmhaaDoorValueMakesWalk
import Derived.Test.YtbjlhdjcdinmhaaDoorRB
import Derived.Test.YtbjlhdjcdinmhaaDoorRE
import Derived.Test.YtbjlhdjcdinmhaaDoorRD
namespace Go.Proofs.YtbjlhdjcdinmhaaDoor
open Go.RowKit Go.Op
namespace Vm
set_option maxHeartbeats 16000000 in
set_option maxRecDepth 100000 in
theorem parts_walk (w : World) (ns : List ByteArray) (P0 : Nat → Prop) (A0 : Option Addr) (c0 : Nat) (h0 : NV w P0 ns A0 c0) (ps : List Vl) (P1 : Nat → Prop) (A1 : Option Addr) (c1 : Nat) (h1 : VV w P1 ps A1 c1)
    (nm : ByteArray) (hT : Tb w) :
    Calls Tryd.prog 7 #[.slice A0 ns.length c0, .slice A1 ps.length c1, .string nm] w fun e w' => e = .returned (.bool true) ∧ Below w.heap.size w w' := by
  obtain ⟨n, hn⟩ : ∃ n, n = ns.length := ⟨_, rfl⟩
  obtain ⟨m, hm⟩ : ∃ m, m = ps.length := ⟨_, rfl⟩
  obtain ⟨sz, hsz⟩ : ∃ z, z = nm.size := ⟨_, rfl⟩
  rw [← hn, ← hm]
  have HN := Lib.hid hn
  have HM := Lib.hid hm
  have HNV : Hid (NV w (fun g => P0 g ∧ g < w.heap.size) ns A0 c0) := h0.low
  have HVV : Hid (VV w (fun g => P1 g ∧ g < w.heap.size) ps A1 c1) := h1.low
  have HT := Lib.hid hT
  have HB0 : Hid (Below w.heap.size w w) := Below.refl _ _
  have HSZ := Lib.hid hsz
  clear hn hm h0 h1 hT
  go_enter Tryd.func7, Tryd.ntmps7
  by_cases hn : n ≤ 30
  case neg =>
    have q1 : (n : Int) > 30 := by omega
    clear hn HNV HVV HN HM
    have CA := Lib.hid (awake_any _ (HT.out.step HB0.out))
    go_wp2_with fail
    refine CA.out.mono ?_
    rintro e w9 ⟨rfl, hb9⟩
    have HB9 := Lib.hid (HB0.out.trans (hb9.mono HB0.out.size))
    clear hb9 CA
    go_wp2_with fail
    (first | go_ret | go_ret2)
    exact ⟨rfl, HB9.out⟩
  by_cases hm : m ≤ 30
  case neg =>
    have q1 : ¬ (n : Int) > 30 := by omega
    have q2 : (m : Int) > 30 := by omega
    clear hn hm HNV HVV HN HM
    have CA := Lib.hid (awake_any _ (HT.out.step HB0.out))
    go_wp2_with fail
    refine CA.out.mono ?_
    rintro e w9 ⟨rfl, hb9⟩
    have HB9 := Lib.hid (HB0.out.trans (hb9.mono HB0.out.size))
    clear hb9 CA
    go_wp2_with fail
    (first | go_ret | go_ret2)
    exact ⟨rfl, HB9.out⟩
  by_cases hs : sz ≤ 100
  case neg =>
    have q1 : ¬ (n : Int) > 30 := by omega
    have q2 : ¬ (m : Int) > 30 := by omega
    have q3 : (nm.size : Int) > 100 := by omega
    clear hn hm hs hsz HSZ HNV HVV HN HM
    have CA := Lib.hid (awake_any _ (HT.out.step HB0.out))
    go_wp2_with fail
    refine CA.out.mono ?_
    rintro e w9 ⟨rfl, hb9⟩
    have HB9 := Lib.hid (HB0.out.trans (hb9.mono HB0.out.size))
    clear hb9 CA
    go_wp2_with fail
    (first | go_ret | go_ret2)
    exact ⟨rfl, HB9.out⟩
  have q1 : ¬ (n : Int) > 30 := by omega
  have q2 : ¬ (m : Int) > 30 := by omega
  have q3 : ¬ (nm.size : Int) > 100 := by omega
  have HSZnm : Hid (nm.size ≤ 140737488351232) := by unfold Hid; omega
  clear hs hsz
  go_wp2_with fail
  clear q1 q2 q3
  go_loopg [7, 33] (m + 1) (fun kx s7 s33 wr => ∃ (i : Nat) (x2 : Value), x2 = s7 ∧ s33 = .int .i64 i ∧ m - i ≤ kx ∧ i ≤ m ∧ Hid (∀ p ∈ ps.take i, p.cnt ≤ 1000001 ∧ p.right = true) ∧ Hid (∃ cs, GW 34 w wr (fun g => P1 g ∧ g < w.heap.size) x2 (ps.take i) cs))
  case atStart => exact ⟨0, _, rfl, rfl, by omega, by omega, by simp [Hid], _, GW.start _ _ _⟩
  case round =>
    obtain ⟨i, x2, rfl, rfl, hkx, hin, HLR, cs, hgw⟩ := hrel
    have HB := Lib.hid hgw.fr
    by_cases hi : i < m
    · have hil : (i : Int) < (m : Int) := by omega
      obtain ⟨p, e⟩ := get_lt (l := ps) (i := i) (by rw [← HM.out]; exact hi)
      obtain ⟨g, o, An2, cn2, A2, c2, hA, hP, hg, hti, z0, z1, z2, z3, z4⟩ := (HVV.out.below HB.out).nth e
      have HTK : Hid (ps.take (i + 1) = ps.take i ++ [p]) := by unfold Hid; rw [List.take_add_one, e]; rfl
      obtain ⟨j, hj⟩ : ∃ j, j = i + 1 := ⟨_, rfl⟩
      rw [← hj] at HTK
      have b1 := bel1 wr (.cells (varr p.hd An2 p.names.length cn2 A2 p.parts.length c2) 25)
      have RX := Lib.hid (RowB.new wr 25 (varr p.hd An2 p.names.length cn2 A2 p.parts.length c2))
      have HTI := Lib.hid (hti.below b1)
      have HGX := Lib.hid (hgw.below b1)
      have hln : (ps.take i).length = i := by rw [List.length_take]; have := HM.out; omega
      have HLN := Lib.hid hln
      obtain ⟨wx, hwx⟩ : ∃ wx, wx = wr.alloc (.cells (varr p.hd An2 p.names.length cn2 A2 p.parts.length c2) 25) := ⟨_, rfl⟩
      rw [← hwx] at RX HTI HGX
      have C1 := Lib.hid (light_any wx p _ An2 cn2 A2 c2 HTI.out)
      obtain ⟨l, hl⟩ : ∃ l, l = p.light := ⟨_, rfl⟩
      rw [← hl] at C1
      have HLL := Lib.hid hl
      have HCN : Hid (l = true → p.cnt ≤ 1000001) := fun h => by
        have := (light_cnt (VI.nsz HTI.out) (hl.symm.trans h)).2.1
        omega
      obtain ⟨rr, hrr⟩ : ∃ rr, rr = p.right := ⟨_, rfl⟩
      have HRR := Lib.hid hrr
      have HTL : Hid (l = true → rr = true → ∀ q ∈ ps.take j, q.cnt ≤ 1000001 ∧ q.right = true) := fun h h' q hq => by
        rw [HTK.out] at hq
        rcases List.mem_append.1 hq with hq | hq
        · exact HLR.out q hq
        · obtain rfl := List.mem_singleton.1 hq
          exact ⟨HCN.out h, HRR.out.symm.trans h'⟩
      subst hA
      have CRR : Hid (l = true → ∀ w', Below wx.heap.size wx w' → Calls Tryd.prog 14 #[vv p An2 cn2 A2 c2] w' fun e w2 => e = .returned (.bool rr) ∧ Below w'.heap.size w' w2) := fun h w' hb => by
        rw [HRR.out]
        exact rright_any p (HCN.out h) w' _ An2 cn2 A2 c2 (HTI.out.below hb)
      obtain ⟨ph, np, pp⟩ := p
      simp only [varr, vv, hd_mk, names_mk, parts_mk] at z0 z1 z2 z3 z4 C1 RX hwx CRR
      clear e hti b1 hP hl hgw hln hrr
      have rx := RX.out.cell
      go_wp2_with fail
      rw [← hwx]
      refine C1.out.mono ?_
      rintro e w2 ⟨rfl, h2⟩
      have HG2 := Lib.hid (HGX.out.below h2)
      have HB2 := Lib.hid HG2.out.fr
      have RX2 := Lib.hid (RX.out.below h2 RX.out.lt)
      have HTI2 := Lib.hid (HTI.out.below h2)
      have HX2 := Lib.hid h2
      clear h2 C1 z0 z1 z2 z3 z4 rx hwx RX HGX HB HTI
      cases l with
      | false =>
        skip
        clear RX2 HTI2 CRR
        have CA := Lib.hid (awake_any _ (HT.out.step HB2.out))
        go_wp2_with fail
        refine CA.out.mono ?_
        rintro e w9 ⟨rfl, hb9⟩
        have HB9 := Lib.hid (HB2.out.trans (hb9.mono HB2.out.size))
        clear hb9 CA
        go_wp2_with fail
        (first | go_ret | go_ret2)
        exact ⟨rfl, HB9.out⟩
      | true =>
        have HCN2 := Lib.hid (HCN.out (by first | rfl | trivial))
        have CR2 := Lib.hid (CRR.out (by first | rfl | trivial) w2 HX2.out)
        have HTL2 := Lib.hid (HTL.out (by first | rfl | trivial))
        clear CRR HTL HCN
        have rx := RX2.out.cell
        go_wp2_with fail
        refine CR2.out.mono ?_
        rintro e w2 ⟨rfl, h2⟩
        have HG2 := Lib.hid (HG2.out.below h2)
        have HB2 := Lib.hid HG2.out.fr
        have RX2 := Lib.hid (RX2.out.below h2 RX2.out.lt)
        have HTI2 := Lib.hid (HTI2.out.below h2)
        clear h2 rx CR2 HX2
        cases rr with
        | false =>
          skip
          clear RX2 HTI2
          have CA := Lib.hid (awake_any _ (HT.out.step HB2.out))
          go_wp2_with fail
          refine CA.out.mono ?_
          rintro e w9 ⟨rfl, hb9⟩
          have HB9 := Lib.hid (HB2.out.trans (hb9.mono HB2.out.size))
          clear hb9 CA
          go_wp2_with fail
          (first | go_ret | go_ret2)
          exact ⟨rfl, HB9.out⟩
        | true =>
        have HTL3 := Lib.hid (HTL2.out (by first | rfl | trivial))
        clear HTL2
        have C3 := Lib.hid (to_any _ HCN2.out w2 _ An2 cn2 A2 c2 HTI2.out)
        have rx := RX2.out.cell
        simp only [vv, hd_mk, names_mk, parts_mk] at C3
        go_wp2_with fail
        refine C3.out.mono ?_
        rintro e w3 ⟨h3, An5, cn5, A5, c5, rfl, ht5⟩
        obtain ⟨iT, hiT, hzT, hsT, hbT⟩ := info_parts info34
        have Q3 := HG2.out.below h3
        have ht5' := ht5.mono (Q := fun g => (P1 g ∧ g < w.heap.size) ∨ w2.heap.size ≤ g) fun g hg => hg
        have hti := (HG2.out.pend (fun g hg => hg.2) ht5')
        have hl2 : (ps.take i).length + 1 ≤ 1000001 := by have := HLN.out; omega
        have bb3 : (ps.take i).length + 1 ≤ maxLen := by unfold maxLen; omega
        have bb4 : ((ps.take i).length + 1) * 80 ≤ 140737488355328 := by omega
        have HQ3 := Lib.hid Q3
        have HTI3 := Lib.hid hti
        obtain ⟨tl, htl⟩ : ∃ tl, tl = ps.take i := ⟨_, rfl⟩
        rw [← htl] at HQ3 bb3 bb4 HTK HLN
        have HG3 := Lib.hid (HQ3.out.below (bel1 w3 (.cells (yv ph An5 np.length cn5 A5 pp.length c5) 34)))
        have RY := Lib.hid (RowB.new w3 34 (yv ph An5 np.length cn5 A5 pp.length c5))
        have HTI4 := Lib.hid (HTI3.out.below (bel1 w3 (.cells (yv ph An5 np.length cn5 A5 pp.length c5) 34)))
        have oc2 : ∀ u ∈ ((yv ph An5 np.length cn5 A5 pp.length c5) : Array Value).toList, u.oneCell' = true := by simp [Value.oneCell']
        have hsz3 : w.heap.size ≤ (w3.alloc (.cells (yv ph An5 np.length cn5 A5 pp.length c5) 34)).heap.size := HG3.out.fr.size
        clear h3 ht5 ht5' hti Q3 C3 rx hl2 htl
        simp only [vv, hd_mk, names_mk, parts_mk]
        go_wp2_with ((at_builtin; refine wpList_append_lies _ rfl (.tmp 46) (.tmp 49) 32 rfl w.heap.size 34 iT _ 5 80 Tryd.underlying32 hiT hzT hsT hbT rfl (by omega) x2 tl.length cs rfl HG3.out.o2 ⟨w3.heap.size, 0, none⟩ 1 1 ((yv ph An5 np.length cn5 A5 pp.length c5) : Array Value).toList rfl rfl (World.news_of_block RY.out) oc2 (by omega) bb3 bb4 hsz3 _ rfl ?_))
        intro gb capb w5 hown2 hgrow2 hat2 hlt2
        have Q5 := Lib.hid (HG3.out.app HTI4.out hown2 hgrow2 rfl (by have h := hat2; simpa using h))
        have HF5 : Hid (∃ cs, GW 34 w w5 (fun g => P1 g ∧ g < w.heap.size) (.slice (some ⟨gb, 0, none⟩) (tl.length + 1) capb) (ps.take j) cs) := by
          unfold Hid
          rw [HTK.out]
          exact ⟨_, Q5.out⟩
        clear hown2 hgrow2 hat2 hlt2 Q5 HG3 RY HTI4 oc2 hsz3 bb3 bb4 HQ3 HTI3
        go_wp2_with fail
        go_roundg (m - j)
        case measure => omega
        case rel => exact ⟨j, _, rfl, by rw [hj]; go_num, by omega, by omega, HTL3.out, HF5.out⟩
    · have hil : ¬ (i : Int) < (m : Int) := by omega
      obtain rfl : m = i := by omega
      have hgf := hgw
      rw [List.take_of_length_le (by rw [← HM.out]; exact Nat.le_refl _)] at hgf
      obtain ⟨A', c', e2, hvv⟩ := hgf.out
      rw [← HM.out] at e2
      subst e2
      have hL := HLR.out
      rw [List.take_of_length_le (by rw [← HM.out]; exact Nat.le_refl _)] at hL
      have HL := Lib.hid hL
      have HVL : Hid (VV wr (fun _ => True) ps A' c') := hvv.mono fun _ _ => trivial
      clear HLR hL hi hgf hgw
      have C0 := record_any wr ns ps (fun _ => True) A0 c0 A' c' ((HNV.out.below HB.out).mono fun _ _ => trivial) HVL.out (by rw [← HN.out]; omega)
      rw [← HN.out, ← HM.out] at C0
      have CREC := Lib.hid C0
      clear C0 hvv
      go_wp2_with fail
      refine CREC.out.mono ?_
      rintro e w2 ⟨t, Bn1, dn1, B1, d1, z, rfl, hti, h2, hz⟩
      have b3 := bel1 w2 (.cells (varr t.hd Bn1 t.names.length dn1 B1 t.parts.length d1) 34)
      have R9 := Lib.hid (RowB.new w2 34 (varr t.hd Bn1 t.names.length dn1 B1 t.parts.length d1))
      have HTI := Lib.hid (hti.below b3)
      obtain ⟨w3, hw3⟩ : ∃ w3, w3 = w2.alloc (.cells (varr t.hd Bn1 t.names.length dn1 B1 t.parts.length d1) 34) := ⟨_, rfl⟩
      rw [← hw3] at b3 R9 HTI
      have h23 := h2.trans (b3.mono h2.size)
      have HVL3 := Lib.hid (HVL.out.below h23)
      have HB3 := Lib.hid (HB.out.trans (h23.mono HB.out.size))
      have HW3 := Lib.hid hw3
      clear hti h2 b3 CREC hw3 h23 HVL HB
      have hz' : (z = 1 ∨ z = 40) ∨ (z = 0 ∧ ns.length = ps.length ∧ IsRec ns ps t) := by
        rcases hz with h | h | h
        · exact .inl (.inl h.1)
        · exact .inl (.inr h.1)
        · exact .inr ⟨h.1, h.2.1, h.2.2.2⟩
      clear hz
      rcases hz' with hz | ⟨rfl, hlen, hrec⟩
      · have e3 := HW3.out
        obtain ⟨k3, n3, p3⟩ := t
        simp only [varr, hd_mk, names_mk, parts_mk] at e3
        clear HTI R9 HW3
        rcases hz with rfl | rfl
        all_goals
          have CA := Lib.hid (awake_any _ (HT.out.step HB3.out))
          go_wp2_with fail
          rw [← e3]
          refine CA.out.mono ?_
          rintro e w9 ⟨rfl, hb9⟩
          have HB9 := Lib.hid (HB3.out.trans (hb9.mono HB3.out.size))
          clear hb9 CA
          go_wp2_with fail
          (first | go_ret | go_ret2)
          exact ⟨rfl, HB9.out⟩
      have HLEN := Lib.hid hlen
      have hrt : t.right = true := hrec.right fun p hp => (HL.out p hp).2
      have HRT := Lib.hid hrt
      have HKD := Lib.hid hrec.kind
      have hfx : (∀ i x p, ns[i]? = some x → ps[i]? = some p → t.field x = some p) ∧ (t.field nm).isSome = ns.any (fun x => decide (x = nm)) := ⟨fun i x p e e' => hrec.at e e', hrec.has hlen nm⟩
      have HFX := Lib.hid hfx
      have HTN : Hid (t.names.length ≤ 1000001) := by have := hrec.len_le; rw [← HN.out] at this; unfold Hid; omega
      have CF : Hid (∀ w' x, Below w3.heap.size w3 w' → Calls Tryd.prog 17 #[.agg (varr t.hd Bn1 t.names.length dn1 B1 t.parts.length d1), .string x] w' (FieldQ (fun _ => True) (t.field x) w')) := fun w' x hb => by
        have hh := (VI_iff.1 ((HTI.out.below hb).mono (Q := fun _ => True) fun _ _ => trivial))
        have := pfield_any w' t.hd t.names t.parts x _ Bn1 dn1 B1 d1 hh.1 hh.2 HTN.out (by rw [← Vl.eta]; exact HRT.out)
        rw [← Vl.eta] at this
        exact this
      have hct : ∀ w' kt tn Bn dn m, Below w3.heap.size w3 w' → NV w' (fun _ => True) tn Bn dn → tn.length ≤ 1000001 → m ≤ 140737488355328 → ∀ B d, Calls Tryd.prog 20 #[.agg (varr t.hd Bn1 t.names.length dn1 B1 t.parts.length d1), .agg #[.int .i64 kt, .slice Bn tn.length dn, .slice B m d]] w' fun e w2 => e = .returned (.bool (fitB t kt tn m)) ∧ Below w'.heap.size w' w2 := fun w' kt tn Bn dn m hb hM hl hm B d => by
        have hh := (VI_iff.1 ((HTI.out.below hb).mono (Q := fun _ => True) fun _ _ => trivial))
        have := fits_any w' t.hd t.names t.parts _ _ Bn1 dn1 B1 d1 hh.1 hh.2 HTN.out (by rw [← Vl.eta]; exact HRT.out) kt tn Bn dn hM hl B m d hm
        rw [← Vl.eta] at this
        exact this
      have hft : ∀ x, fitB t 3 [x] 1 = (t.field x).isSome ∧ fitB t 0 [] 0 = true ∧ fitB t 3 [] 0 = true ∧ fitB t 1 [] 0 = false := fun x => by
        have := fit_rec (k := t.hd) (ns := t.names) (ps := t.parts) hrec.kind x
        rw [← Vl.eta] at this
        exact this
      have CT1 : Hid (∀ w' x g, Below w3.heap.size w3 w' → NV w' (fun _ => True) [x] (some ⟨g, 0, none⟩) 1 → ∀ B d, Calls Tryd.prog 20 #[.agg (varr t.hd Bn1 t.names.length dn1 B1 t.parts.length d1), .agg #[.int .i64 3, .slice (some ⟨g, 0, none⟩) 1 1, .slice B 1 d]] w' fun e w2 => e = .returned (.bool (t.field x).isSome) ∧ Below w'.heap.size w' w2) := fun w' x g hb hM B d => by
        have := hct w' 3 [x] _ _ 1 hb hM (by simp) (by omega) B d
        rw [(hft x).1] at this
        exact this
      have CT2 : Hid (∀ w', Below w3.heap.size w3 w' → Calls Tryd.prog 20 #[.agg (varr t.hd Bn1 t.names.length dn1 B1 t.parts.length d1), .agg #[.int .i64 0, .slice none 0 0, .slice none 0 0]] w' fun e w2 => e = .returned (.bool true) ∧ Below w'.heap.size w' w2) := fun w' hb => by
        have := hct w' 0 [] none 0 0 hb (NV.nil _ _ _ _) (by simp) (by omega) none 0
        rw [(hft nm).2.1] at this
        exact this
      have CT3 : Hid (∀ w', Below w3.heap.size w3 w' → Calls Tryd.prog 20 #[.agg (varr t.hd Bn1 t.names.length dn1 B1 t.parts.length d1), .agg #[.int .i64 3, .slice none 0 0, .slice none 0 0]] w' fun e w2 => e = .returned (.bool true) ∧ Below w'.heap.size w' w2) := fun w' hb => by
        have := hct w' 3 [] none 0 0 hb (NV.nil _ _ _ _) (by simp) (by omega) none 0
        rw [(hft nm).2.2.1] at this
        exact this
      have CT4 : Hid (∀ w', Below w3.heap.size w3 w' → Calls Tryd.prog 20 #[.agg (varr t.hd Bn1 t.names.length dn1 B1 t.parts.length d1), .agg #[.int .i64 1, .slice none 0 0, .slice none 0 0]] w' fun e w2 => e = .returned (.bool false) ∧ Below w'.heap.size w' w2) := fun w' hb => by
        have := hct w' 1 [] none 0 0 hb (NV.nil _ _ _ _) (by simp) (by omega) none 0
        rw [(hft nm).2.2.2] at this
        exact this
      obtain ⟨fd, hfd⟩ : ∃ fd, fd = t.field := ⟨_, rfl⟩
      rw [← hfd] at CF HFX CT1
      clear hlen hrec hfx hfd HTN HTI hrt HRT hct hft HKD
      have e3 := HW3.out
      obtain ⟨k3, n3, p3⟩ := t
      simp only [varr, hd_mk, names_mk, parts_mk] at e3 R9 CF CT1 CT2 CT3 CT4
      clear HW3
      go_wp2_with fail
      rw [← e3]
      clear e3
      go_loopg [12, 63] (n + 1) (fun kx s12 s63 wq => ∃ (i : Nat) (q : Bool), s63 = .int .i64 i ∧ s12 = .bool q ∧ n - i ≤ kx ∧ i ≤ n ∧ Hid (q = (ns.take i).any (fun x => decide (x = nm))) ∧ Hid (Below w3.heap.size w3 wq))
      case atStart => exact ⟨0, false, rfl, rfl, by omega, by omega, by simp [Hid], Below.refl _ _⟩
      case round =>
        obtain ⟨i, q, rfl, rfl, hkx2, hin2, HQ, HBq⟩ := hrel
        have HBw := Lib.hid (HB3.out.trans (HBq.out.mono HB3.out.size))
        have hmk : ∀ u : World, (Instr.makeSlice 26 (.int .i64 1) (.int .i64 1)).run Tryd.prog u = .ok (.slice (some ⟨u.heap.size, 0, none⟩) 1 1) (u.alloc (.cells #[.int .i64 0, .slice none 0 0, .slice none 0 0] 28)) := make26
        by_cases hi2 : i < n
        · have hil2 : (i : Int) < (n : Int) := by omega
          obtain ⟨x, e⟩ := get_lt (l := ns) (i := i) (by rw [← HN.out]; exact hi2)
          obtain ⟨p, e'⟩ := get_lt (l := ps) (i := i) (by rw [← HLEN.out, ← HN.out]; exact hi2)
          obtain ⟨g0, o0, hA0, _, hg0, y, hsx⟩ := (HNV.out.below HBw.out).nth e
          have HSZx : Hid (x.size ≤ 140737488351232) := hsx
          obtain ⟨g1, o1, An2, cn2, A2, c2, hA1, hP1, hg1, hti, v0, v1, v2, v3, v4⟩ := (HVL3.out.below HBq.out).nth e'
          have HCP := Lib.hid (HL.out p (List.mem_of_getElem? e')).1
          have C5 := CF.out wr x HBq.out
          rw [HFX.out.1 i x p e e'] at C5
          have C5' := Lib.hid C5
          have C1x : Hid (∀ w' g, Below w3.heap.size w3 w' → NV w' (fun _ => True) [x] (some ⟨g, 0, none⟩) 1 → ∀ B d, Calls Tryd.prog 20 #[.agg (varr k3 Bn1 n3.length dn1 B1 p3.length d1), .agg #[.int .i64 3, .slice (some ⟨g, 0, none⟩) 1 1, .slice B 1 d]] w' fun e w2 => e = .returned (.bool true) ∧ Below w'.heap.size w' w2) := fun w' g hb hM B d => by
            have := CT1.out w' x g hb hM B d
            rw [HFX.out.1 i x p e e'] at this
            exact this
          have HTK : Hid ((ns.take (i + 1)).any (fun y => decide (y = nm)) = (q || decide (x = nm))) := by
            unfold Hid
            rw [List.take_add_one, e, List.any_append, ← HQ.out]
            simp
          obtain ⟨bb, hbb⟩ : ∃ bb, bb = decide (x = nm) := ⟨_, rfl⟩
          have hxe : (x.toList == nm.toList) = bb := by rw [beq_ba, hbb]
          rw [← hbb] at HTK
          obtain ⟨j, hj⟩ : ∃ j, j = i + 1 := ⟨_, rfl⟩
          rw [← hj] at HTK
          have HTI := Lib.hid hti
          have im : (i : Int) < (m : Int) := by have := HLEN.out; have := HN.out; have := HM.out; omega
          have him : i < m := by omega
          subst hA0
          subst hA1
          obtain ⟨k5, n5, p5⟩ := p
          simp only [hd_mk, names_mk, parts_mk] at v0 v1 v2 v3 v4
          have r4 := (R9.out.below HBq.out R9.out.lt).cell
          clear e e' hti C5 hbb HQ hsx
          go_wp2_with fail
          refine C5'.out.mono ?_
          rintro e w5 ⟨h5, An5, cn5, A5, c5, rfl, ht5⟩
          try simp only [vv, hd_mk, names_mk, parts_mk]
          have b6 := bel1 w5 (.cells (varr k5 An5 n5.length cn5 A5 p5.length c5) 34)
          have RB := Lib.hid (RowB.new w5 34 (varr k5 An5 n5.length cn5 A5 p5.length c5))
          obtain ⟨w6, hw6⟩ : ∃ w6, w6 = w5.alloc (.cells (varr k5 An5 n5.length cn5 A5 p5.length c5) 34) := ⟨_, rfl⟩
          rw [← hw6] at b6 RB
          have h56 := h5.trans (b6.mono h5.size)
          have HBq6 := Lib.hid (HBq.out.trans (h56.mono HBq.out.size))
          have h36 := HBq6
          have y0 := (h56.cell (p := ⟨g1, o1 + i * 5, none⟩) hg1).trans v0
          have y1 := (h56.cell (p := ⟨g1, o1 + i * 5 + 1, none⟩) hg1).trans v1
          have y2 := (h56.cell (p := ⟨g1, o1 + i * 5 + 2, none⟩) hg1).trans v2
          have y3 := (h56.cell (p := ⟨g1, o1 + i * 5 + 3, none⟩) hg1).trans v3
          have y4 := (h56.cell (p := ⟨g1, o1 + i * 5 + 4, none⟩) hg1).trans v4
          have hg6 : g1 < w6.heap.size := Nat.lt_of_lt_of_le hg1 h56.size
          have bx := RB.out.cell
          have lbx := RB.out.lt
          have R6 := R9.out.below HBq6.out R9.out.lt
          have c9 := R6.cell
          have l9 := R6.lt
          have D6 : Below w6.heap.size w6 w6.drew := Below.drew (Below.refl _ _)
          have C9 := psame_any (.mk k5 n5 p5) HCP.out (.mk k5 n5 p5) HCP.out w6.drew _ _ _ _ _ _ _ _ _ _ ((ht5.below b6).below D6) ((HTI.out.below h56).below D6)
          rw [same_refl] at C9
          have CS := Lib.hid C9
          try simp only [vv, hd_mk, names_mk, parts_mk] at CS
          have CT1 := C1x
          have e6 := hw6
          simp only [varr] at e6
          clear h5 h56 b6 C9 C5' v0 v1 v2 v3 v4 ht5 r4 hw6 R6
          go_upto_region 19 with fail
          rw [← e6]
          clear e6
          have CT1 : Hid (∀ w' (_ : ByteArray) g, Below w3.heap.size w3 w' → NV w' (fun _ => True) [x] (some ⟨g, 0, none⟩) 1 → ∀ B d, Calls Tryd.prog 20 #[.agg #[.int .i64 k3.kind, .int .i64 k3.n, .string k3.s, .slice Bn1 n3.length dn1, .slice B1 p3.length d1], .agg #[.int .i64 3, .slice (some ⟨g, 0, none⟩) 1 1, .slice B 1 d]] w' fun e w2 => e = .returned (.bool true) ∧ Below w'.heap.size w' w2) := fun w' _ g => CT1.out w' g
          refine wp_region_G (S := SG (fun w' => Below w6.heap.size w6 w') 99 (fun _ => True) 99 (fun _ => True)) (by kernel_rfl) ⟨D6, fun _ => trivial, fun _ => trivial⟩ (fun hS => ?_)
          refine wpG_take0 (i := 0) (v := ?v1) rfl (by kernel_rfl) (by kernel_rfl) (by kernel_rfl) (by decide) (by decide) (fun _ _ _ h => h) hS (Or.inl ⟨by rfl, ?hy1⟩) ?rest1
          case hy1 => (intro w' hw; (try dsimp only at hw); have u0 := fun j => (hw.cell (p := ⟨w5.heap.size, j, none⟩) lbx).trans (bx j); have u1 := fun j => (hw.cell (p := ⟨w2.heap.size, j, none⟩) l9).trans (c9 j); have u3 := (hw.cell (p := ⟨g1, o1 + i * 5, none⟩) hg6).trans y0; have u4 := (hw.cell (p := ⟨g1, o1 + i * 5 + 1, none⟩) hg6).trans y1; have u5 := (hw.cell (p := ⟨g1, o1 + i * 5 + 2, none⟩) hg6).trans y2; have u6 := (hw.cell (p := ⟨g1, o1 + i * 5 + 3, none⟩) hg6).trans y3; have u7 := (hw.cell (p := ⟨g1, o1 + i * 5 + 4, none⟩) hg6).trans y4; go_simp; try with_reducible rfl)
          replace hS := SG.set (i := 0) (by decide) (by decide) hS
          try simp only [Act.put, List.setIfInBounds_toArray, List.set_cons_zero, List.set_cons_succ]
          refine wpG_take0 (i := 1) (v := ?v2) rfl (by kernel_rfl) (by kernel_rfl) (by kernel_rfl) (by decide) (by decide) (fun _ _ _ h => h) hS (Or.inl ⟨by rfl, ?hy2⟩) ?rest2
          case hy2 => (intro w' hw; (try dsimp only at hw); have u0 := fun j => (hw.cell (p := ⟨w5.heap.size, j, none⟩) lbx).trans (bx j); have u1 := fun j => (hw.cell (p := ⟨w2.heap.size, j, none⟩) l9).trans (c9 j); have u3 := (hw.cell (p := ⟨g1, o1 + i * 5, none⟩) hg6).trans y0; have u4 := (hw.cell (p := ⟨g1, o1 + i * 5 + 1, none⟩) hg6).trans y1; have u5 := (hw.cell (p := ⟨g1, o1 + i * 5 + 2, none⟩) hg6).trans y2; have u6 := (hw.cell (p := ⟨g1, o1 + i * 5 + 3, none⟩) hg6).trans y3; have u7 := (hw.cell (p := ⟨g1, o1 + i * 5 + 4, none⟩) hg6).trans y4; go_simp; try with_reducible rfl)
          replace hS := SG.set (i := 1) (by decide) (by decide) hS
          try simp only [Act.put, List.setIfInBounds_toArray, List.set_cons_zero, List.set_cons_succ]
          refine wpG_take0 (i := 2) (v := ?v3) rfl (by kernel_rfl) (by kernel_rfl) (by kernel_rfl) (by decide) (by decide) (fun _ _ _ h => h) hS (Or.inl ⟨by rfl, ?hy3⟩) ?rest3
          case hy3 => (intro w' hw; (try dsimp only at hw); have u0 := fun j => (hw.cell (p := ⟨w5.heap.size, j, none⟩) lbx).trans (bx j); have u1 := fun j => (hw.cell (p := ⟨w2.heap.size, j, none⟩) l9).trans (c9 j); have u3 := (hw.cell (p := ⟨g1, o1 + i * 5, none⟩) hg6).trans y0; have u4 := (hw.cell (p := ⟨g1, o1 + i * 5 + 1, none⟩) hg6).trans y1; have u5 := (hw.cell (p := ⟨g1, o1 + i * 5 + 2, none⟩) hg6).trans y2; have u6 := (hw.cell (p := ⟨g1, o1 + i * 5 + 3, none⟩) hg6).trans y3; have u7 := (hw.cell (p := ⟨g1, o1 + i * 5 + 4, none⟩) hg6).trans y4; go_simp; try with_reducible rfl)
          replace hS := SG.set (i := 2) (by decide) (by decide) hS
          try simp only [Act.put, List.setIfInBounds_toArray, List.set_cons_zero, List.set_cons_succ]
          refine wpG_take0 (i := 3) (v := ?v4) rfl (by kernel_rfl) (by kernel_rfl) (by kernel_rfl) (by decide) (by decide) (fun _ _ _ h => h) hS (Or.inl ⟨by rfl, ?hy4⟩) ?rest4
          case hy4 => (intro w' hw; (try dsimp only at hw); have u0 := fun j => (hw.cell (p := ⟨w5.heap.size, j, none⟩) lbx).trans (bx j); have u1 := fun j => (hw.cell (p := ⟨w2.heap.size, j, none⟩) l9).trans (c9 j); have u3 := (hw.cell (p := ⟨g1, o1 + i * 5, none⟩) hg6).trans y0; have u4 := (hw.cell (p := ⟨g1, o1 + i * 5 + 1, none⟩) hg6).trans y1; have u5 := (hw.cell (p := ⟨g1, o1 + i * 5 + 2, none⟩) hg6).trans y2; have u6 := (hw.cell (p := ⟨g1, o1 + i * 5 + 3, none⟩) hg6).trans y3; have u7 := (hw.cell (p := ⟨g1, o1 + i * 5 + 4, none⟩) hg6).trans y4; go_simp; try with_reducible rfl)
          replace hS := SG.set (i := 3) (by decide) (by decide) hS
          try simp only [Act.put, List.setIfInBounds_toArray, List.set_cons_zero, List.set_cons_succ]
          refine wpG_take0 (i := 4) (v := ?v5) rfl (by kernel_rfl) (by kernel_rfl) (by kernel_rfl) (by decide) (by decide) (fun _ _ _ h => h) hS (Or.inl ⟨by rfl, ?hy5⟩) ?rest5
          case hy5 => (intro w' hw; (try dsimp only at hw); have u0 := fun j => (hw.cell (p := ⟨w5.heap.size, j, none⟩) lbx).trans (bx j); have u1 := fun j => (hw.cell (p := ⟨w2.heap.size, j, none⟩) l9).trans (c9 j); have u3 := (hw.cell (p := ⟨g1, o1 + i * 5, none⟩) hg6).trans y0; have u4 := (hw.cell (p := ⟨g1, o1 + i * 5 + 1, none⟩) hg6).trans y1; have u5 := (hw.cell (p := ⟨g1, o1 + i * 5 + 2, none⟩) hg6).trans y2; have u6 := (hw.cell (p := ⟨g1, o1 + i * 5 + 3, none⟩) hg6).trans y3; have u7 := (hw.cell (p := ⟨g1, o1 + i * 5 + 4, none⟩) hg6).trans y4; go_simp; try with_reducible rfl)
          replace hS := SG.set (i := 4) (by decide) (by decide) hS
          try simp only [Act.put, List.setIfInBounds_toArray, List.set_cons_zero, List.set_cons_succ]
          refine wpG_take0 (i := 5) (v := ?v6) rfl (by kernel_rfl) (by kernel_rfl) (by kernel_rfl) (by decide) (by decide) (fun _ _ _ h => h) hS (Or.inl ⟨by rfl, ?hy6⟩) ?rest6
          case hy6 => (intro w' hw; (try dsimp only at hw); have u0 := fun j => (hw.cell (p := ⟨w5.heap.size, j, none⟩) lbx).trans (bx j); have u1 := fun j => (hw.cell (p := ⟨w2.heap.size, j, none⟩) l9).trans (c9 j); have u3 := (hw.cell (p := ⟨g1, o1 + i * 5, none⟩) hg6).trans y0; have u4 := (hw.cell (p := ⟨g1, o1 + i * 5 + 1, none⟩) hg6).trans y1; have u5 := (hw.cell (p := ⟨g1, o1 + i * 5 + 2, none⟩) hg6).trans y2; have u6 := (hw.cell (p := ⟨g1, o1 + i * 5 + 3, none⟩) hg6).trans y3; have u7 := (hw.cell (p := ⟨g1, o1 + i * 5 + 4, none⟩) hg6).trans y4; go_simp; try with_reducible rfl)
          replace hS := SG.set (i := 5) (by decide) (by decide) hS
          try simp only [Act.put, List.setIfInBounds_toArray, List.set_cons_zero, List.set_cons_succ]
          refine wpG_take0 (i := 6) (v := ?v7) rfl (by kernel_rfl) (by kernel_rfl) (by kernel_rfl) (by decide) (by decide) (fun _ _ _ h => h) hS (Or.inl ⟨by rfl, ?hy7⟩) ?rest7
          case hy7 => (intro w' hw; (try dsimp only at hw); have u0 := fun j => (hw.cell (p := ⟨w5.heap.size, j, none⟩) lbx).trans (bx j); have u1 := fun j => (hw.cell (p := ⟨w2.heap.size, j, none⟩) l9).trans (c9 j); have u3 := (hw.cell (p := ⟨g1, o1 + i * 5, none⟩) hg6).trans y0; have u4 := (hw.cell (p := ⟨g1, o1 + i * 5 + 1, none⟩) hg6).trans y1; have u5 := (hw.cell (p := ⟨g1, o1 + i * 5 + 2, none⟩) hg6).trans y2; have u6 := (hw.cell (p := ⟨g1, o1 + i * 5 + 3, none⟩) hg6).trans y3; have u7 := (hw.cell (p := ⟨g1, o1 + i * 5 + 4, none⟩) hg6).trans y4; go_simp; try with_reducible rfl)
          replace hS := SG.set (i := 6) (by decide) (by decide) hS
          try simp only [Act.put, List.setIfInBounds_toArray, List.set_cons_zero, List.set_cons_succ]
          refine wpG_take0 (i := 7) (v := ?v8) rfl (by kernel_rfl) (by kernel_rfl) (by kernel_rfl) (by decide) (by decide) (fun _ _ _ h => h) hS (Or.inl ⟨by rfl, ?hy8⟩) ?rest8
          case hy8 => (intro w' hw; (try dsimp only at hw); have u0 := fun j => (hw.cell (p := ⟨w5.heap.size, j, none⟩) lbx).trans (bx j); have u1 := fun j => (hw.cell (p := ⟨w2.heap.size, j, none⟩) l9).trans (c9 j); have u3 := (hw.cell (p := ⟨g1, o1 + i * 5, none⟩) hg6).trans y0; have u4 := (hw.cell (p := ⟨g1, o1 + i * 5 + 1, none⟩) hg6).trans y1; have u5 := (hw.cell (p := ⟨g1, o1 + i * 5 + 2, none⟩) hg6).trans y2; have u6 := (hw.cell (p := ⟨g1, o1 + i * 5 + 3, none⟩) hg6).trans y3; have u7 := (hw.cell (p := ⟨g1, o1 + i * 5 + 4, none⟩) hg6).trans y4; go_simp; try with_reducible rfl)
          replace hS := SG.set (i := 7) (by decide) (by decide) hS
          try simp only [Act.put, List.setIfInBounds_toArray, List.set_cons_zero, List.set_cons_succ]
          refine wpG_ready (rs := [8]) (by kernel_rfl) (by simp) ?_
          refine RG.consG rfl rfl (fun K hK => ?_) RG.nil
          go_simp
          refine (CS.out).mono ?_
          rintro e x1 ⟨rfl, hx1⟩
          go_wp2_with fail
          have HG1 := Lib.hid (D6.trans (hx1.mono D6.size))
          clear hx1
          refine hK.out _ _ ⟨HG1.out, fun _ => trivial, fun _ => trivial⟩ (fun hS => ?_)
          clear hK K
          try simp only [Act.put, List.setIfInBounds_toArray, List.set_cons_zero, List.set_cons_succ]
          refine wpG_take0 (i := 9) (v := ?v9) rfl (by kernel_rfl) (by kernel_rfl) (by kernel_rfl) (by decide) (by decide) (fun _ _ _ h => h) hS (Or.inl ⟨by rfl, ?hy9⟩) ?rest9
          case hy9 => (intro w' hw; (try dsimp only at hw); have u0 := fun j => (hw.cell (p := ⟨w5.heap.size, j, none⟩) lbx).trans (bx j); have u1 := fun j => (hw.cell (p := ⟨w2.heap.size, j, none⟩) l9).trans (c9 j); have u3 := (hw.cell (p := ⟨g1, o1 + i * 5, none⟩) hg6).trans y0; have u4 := (hw.cell (p := ⟨g1, o1 + i * 5 + 1, none⟩) hg6).trans y1; have u5 := (hw.cell (p := ⟨g1, o1 + i * 5 + 2, none⟩) hg6).trans y2; have u6 := (hw.cell (p := ⟨g1, o1 + i * 5 + 3, none⟩) hg6).trans y3; have u7 := (hw.cell (p := ⟨g1, o1 + i * 5 + 4, none⟩) hg6).trans y4; go_simp; try with_reducible rfl)
          replace hS := SG.set (i := 9) (by decide) (by decide) hS
          try simp only [Act.put, List.setIfInBounds_toArray, List.set_cons_zero, List.set_cons_succ]
          refine wpG_take0 (i := 10) (v := ?v10) rfl (by kernel_rfl) (by kernel_rfl) (by kernel_rfl) (by decide) (by decide) (fun _ _ _ h => h) hS (Or.inl ⟨by rfl, ?hy10⟩) ?rest10
          case hy10 => (intro w' hw; (try dsimp only at hw); have u0 := fun j => (hw.cell (p := ⟨w5.heap.size, j, none⟩) lbx).trans (bx j); have u1 := fun j => (hw.cell (p := ⟨w2.heap.size, j, none⟩) l9).trans (c9 j); have u3 := (hw.cell (p := ⟨g1, o1 + i * 5, none⟩) hg6).trans y0; have u4 := (hw.cell (p := ⟨g1, o1 + i * 5 + 1, none⟩) hg6).trans y1; have u5 := (hw.cell (p := ⟨g1, o1 + i * 5 + 2, none⟩) hg6).trans y2; have u6 := (hw.cell (p := ⟨g1, o1 + i * 5 + 3, none⟩) hg6).trans y3; have u7 := (hw.cell (p := ⟨g1, o1 + i * 5 + 4, none⟩) hg6).trans y4; go_simp; try with_reducible rfl)
          replace hS := SG.set (i := 10) (by decide) (by decide) hS
          try simp only [Act.put, List.setIfInBounds_toArray, List.set_cons_zero, List.set_cons_succ]
          refine wpG_take0 (i := 11) (v := ?v11) rfl (by kernel_rfl) (by kernel_rfl) (by kernel_rfl) (by decide) (by decide) (fun _ _ _ h => h) hS (Or.inl ⟨by rfl, ?hy11⟩) ?rest11
          case hy11 => (intro w' hw; (try dsimp only at hw); have u0 := fun j => (hw.cell (p := ⟨w5.heap.size, j, none⟩) lbx).trans (bx j); have u1 := fun j => (hw.cell (p := ⟨w2.heap.size, j, none⟩) l9).trans (c9 j); have u3 := (hw.cell (p := ⟨g1, o1 + i * 5, none⟩) hg6).trans y0; have u4 := (hw.cell (p := ⟨g1, o1 + i * 5 + 1, none⟩) hg6).trans y1; have u5 := (hw.cell (p := ⟨g1, o1 + i * 5 + 2, none⟩) hg6).trans y2; have u6 := (hw.cell (p := ⟨g1, o1 + i * 5 + 3, none⟩) hg6).trans y3; have u7 := (hw.cell (p := ⟨g1, o1 + i * 5 + 4, none⟩) hg6).trans y4; go_simp; try with_reducible rfl)
          replace hS := SG.set (i := 11) (by decide) (by decide) hS
          try simp only [Act.put, List.setIfInBounds_toArray, List.set_cons_zero, List.set_cons_succ]
          refine wpG_take0 (i := 12) (v := ?v12) rfl (by kernel_rfl) (by kernel_rfl) (by kernel_rfl) (by decide) (by decide) (fun _ _ _ h => h) hS (Or.inl ⟨by rfl, ?hy12⟩) ?rest12
          case hy12 => (intro w' hw; (try dsimp only at hw); have u0 := fun j => (hw.cell (p := ⟨w5.heap.size, j, none⟩) lbx).trans (bx j); have u1 := fun j => (hw.cell (p := ⟨w2.heap.size, j, none⟩) l9).trans (c9 j); have u3 := (hw.cell (p := ⟨g1, o1 + i * 5, none⟩) hg6).trans y0; have u4 := (hw.cell (p := ⟨g1, o1 + i * 5 + 1, none⟩) hg6).trans y1; have u5 := (hw.cell (p := ⟨g1, o1 + i * 5 + 2, none⟩) hg6).trans y2; have u6 := (hw.cell (p := ⟨g1, o1 + i * 5 + 3, none⟩) hg6).trans y3; have u7 := (hw.cell (p := ⟨g1, o1 + i * 5 + 4, none⟩) hg6).trans y4; go_simp; try with_reducible rfl)
          replace hS := SG.set (i := 12) (by decide) (by decide) hS
          try simp only [Act.put, List.setIfInBounds_toArray, List.set_cons_zero, List.set_cons_succ]
          refine wpG_take0 (i := 13) (v := ?v13) rfl (by kernel_rfl) (by kernel_rfl) (by kernel_rfl) (by decide) (by decide) (fun _ _ _ h => h) hS (Or.inl ⟨by rfl, ?hy13⟩) ?rest13
          case hy13 => (intro w' hw; (try dsimp only at hw); have u0 := fun j => (hw.cell (p := ⟨w5.heap.size, j, none⟩) lbx).trans (bx j); have u1 := fun j => (hw.cell (p := ⟨w2.heap.size, j, none⟩) l9).trans (c9 j); have u3 := (hw.cell (p := ⟨g1, o1 + i * 5, none⟩) hg6).trans y0; have u4 := (hw.cell (p := ⟨g1, o1 + i * 5 + 1, none⟩) hg6).trans y1; have u5 := (hw.cell (p := ⟨g1, o1 + i * 5 + 2, none⟩) hg6).trans y2; have u6 := (hw.cell (p := ⟨g1, o1 + i * 5 + 3, none⟩) hg6).trans y3; have u7 := (hw.cell (p := ⟨g1, o1 + i * 5 + 4, none⟩) hg6).trans y4; go_simp; try with_reducible rfl)
          replace hS := SG.set (i := 13) (by decide) (by decide) hS
          try simp only [Act.put, List.setIfInBounds_toArray, List.set_cons_zero, List.set_cons_succ]
          obtain ⟨X1, hX1⟩ : ∃ X1, X1 = x1 := ⟨_, rfl⟩
          rw [← hX1] at HG1 hS ⊢
          clear hX1
          refine wpG_ready (rs := [14, 15]) (by kernel_rfl) (by simp) ?_
          refine RG.consG rfl rfl (fun K hK => ?_) (RG.consG rfl rfl (fun K hK => ?_) RG.nil)
          · skip
            go_simp
            have HV := Lib.hid (nv_first X1 x HSZx.out)
            have hA := HG1.out.trans ((bel1 X1 (.cells #[.string x] 9)).mono HG1.out.size)
            have hA2 := hA.trans ((bel1 (X1.alloc (.cells #[.string x] 9)) (.cells #[.int .i64 0, .slice none 0 0, .slice none 0 0] 28)).mono hA.size)
            have HA2 := Lib.hid hA2
            refine hK.out _ _ ⟨hA, fun _ => trivial, fun _ => trivial⟩ (fun hS => ?_)
            clear hK K
            try simp only [Act.put, List.setIfInBounds_toArray, List.set_cons_zero, List.set_cons_succ]
            refine wpG_ready (rs := [15]) (by kernel_rfl) (by simp) ?_
            refine RG.consG rfl rfl (fun K hK => ?_) RG.nil
            go_simp
            refine hK.out _ _ ⟨hA2, fun _ => trivial, fun _ => trivial⟩ (fun hS => ?_)
            clear hK K
            try simp only [Act.put, List.setIfInBounds_toArray, List.set_cons_zero, List.set_cons_succ]
            obtain ⟨XX, hXX⟩ : ∃ XX, XX = (X1.alloc (.cells #[.string x] 9)).alloc (.cells #[.int .i64 0, .slice none 0 0, .slice none 0 0] 28) := ⟨_, rfl⟩
            rw [← hXX] at HV HA2 hS ⊢
            clear hA hA2 hXX
            refine wpG_take0 (i := 16) (v := ?v14) rfl (by kernel_rfl) (by kernel_rfl) (by kernel_rfl) (by decide) (by decide) (fun _ _ _ h => h) hS (Or.inl ⟨by rfl, ?hy14⟩) ?rest14
            case hy14 => (intro w' hw; (try dsimp only at hw); have u0 := fun j => (hw.cell (p := ⟨w5.heap.size, j, none⟩) lbx).trans (bx j); have u1 := fun j => (hw.cell (p := ⟨w2.heap.size, j, none⟩) l9).trans (c9 j); have u3 := (hw.cell (p := ⟨g1, o1 + i * 5, none⟩) hg6).trans y0; have u4 := (hw.cell (p := ⟨g1, o1 + i * 5 + 1, none⟩) hg6).trans y1; have u5 := (hw.cell (p := ⟨g1, o1 + i * 5 + 2, none⟩) hg6).trans y2; have u6 := (hw.cell (p := ⟨g1, o1 + i * 5 + 3, none⟩) hg6).trans y3; have u7 := (hw.cell (p := ⟨g1, o1 + i * 5 + 4, none⟩) hg6).trans y4; go_simp; try with_reducible rfl)
            replace hS := SG.set (i := 16) (by decide) (by decide) hS
            try simp only [Act.put, List.setIfInBounds_toArray, List.set_cons_zero, List.set_cons_succ]
            refine wpG_ready (rs := [17]) (by kernel_rfl) (by simp) ?_
            refine RG.consG rfl rfl (fun K hK => ?_) RG.nil
            go_simp
            refine (CT1.out _ x _ (h36.out.trans (HA2.out.mono h36.out.size)) HV.out _ _).mono ?_
            rintro e x2 ⟨rfl, hx2⟩
            go_wp2_with fail
            have HG2 := Lib.hid (HA2.out.trans (hx2.mono HA2.out.size))
            clear hx2
            refine hK.out _ _ ⟨HG2.out, fun _ => trivial, fun _ => trivial⟩ (fun hS => ?_)
            clear hK K
            try simp only [Act.put, List.setIfInBounds_toArray, List.set_cons_zero, List.set_cons_succ]
            refine wpG_take0 (i := 18) (v := ?v15) rfl (by kernel_rfl) (by kernel_rfl) (by kernel_rfl) (by decide) (by decide) (fun _ _ _ h => h) hS (Or.inl ⟨by rfl, ?hy15⟩) ?rest15
            case hy15 => (intro w' hw; (try dsimp only at hw); have u0 := fun j => (hw.cell (p := ⟨w5.heap.size, j, none⟩) lbx).trans (bx j); have u1 := fun j => (hw.cell (p := ⟨w2.heap.size, j, none⟩) l9).trans (c9 j); have u3 := (hw.cell (p := ⟨g1, o1 + i * 5, none⟩) hg6).trans y0; have u4 := (hw.cell (p := ⟨g1, o1 + i * 5 + 1, none⟩) hg6).trans y1; have u5 := (hw.cell (p := ⟨g1, o1 + i * 5 + 2, none⟩) hg6).trans y2; have u6 := (hw.cell (p := ⟨g1, o1 + i * 5 + 3, none⟩) hg6).trans y3; have u7 := (hw.cell (p := ⟨g1, o1 + i * 5 + 4, none⟩) hg6).trans y4; go_simp; try with_reducible rfl)
            replace hS := SG.set (i := 18) (by decide) (by decide) hS
            try simp only [Act.put, List.setIfInBounds_toArray, List.set_cons_zero, List.set_cons_succ]
            refine wpG_take0 (i := 19) (v := ?v16) rfl (by kernel_rfl) (by kernel_rfl) (by kernel_rfl) (by decide) (by decide) (fun _ _ _ h => h) hS (Or.inl ⟨by rfl, ?hy16⟩) ?rest16
            case hy16 => (intro w' hw; (try dsimp only at hw); have u0 := fun j => (hw.cell (p := ⟨w5.heap.size, j, none⟩) lbx).trans (bx j); have u1 := fun j => (hw.cell (p := ⟨w2.heap.size, j, none⟩) l9).trans (c9 j); have u3 := (hw.cell (p := ⟨g1, o1 + i * 5, none⟩) hg6).trans y0; have u4 := (hw.cell (p := ⟨g1, o1 + i * 5 + 1, none⟩) hg6).trans y1; have u5 := (hw.cell (p := ⟨g1, o1 + i * 5 + 2, none⟩) hg6).trans y2; have u6 := (hw.cell (p := ⟨g1, o1 + i * 5 + 3, none⟩) hg6).trans y3; have u7 := (hw.cell (p := ⟨g1, o1 + i * 5 + 4, none⟩) hg6).trans y4; go_simp; try with_reducible rfl)
            replace hS := SG.set (i := 19) (by decide) (by decide) hS
            try simp only [Act.put, List.setIfInBounds_toArray, List.set_cons_zero, List.set_cons_succ]
            refine wpG_done (by kernel_rfl) ?_ _
            have HBF := Lib.hid (HBq6.out.trans (HG2.out.mono HBq6.out.size))
            clear hS CS bx lbx D6 y0 y1 y2 y3 y4 HG1 HG2 HV HA2 HTI
            cases q with
            | true =>
              go_wp2_with fail
              go_roundg (n - j)
              case measure => omega
              case rel => exact ⟨j, true, by rw [hj]; go_num, by first | rfl | simp, by omega, by omega, by rw [HTK.out]; rfl, HBF.out⟩
            | false =>
              go_wp2_with fail
              go_roundg (n - j)
              case measure => omega
              case rel => exact ⟨j, bb, by rw [hj]; go_num, by first | rfl | simp, by omega, by omega, by rw [HTK.out]; rfl, HBF.out⟩
          · skip
            go_simp
            have HV := Lib.hid (nv_second X1 x HSZx.out)
            have hA := HG1.out.trans ((bel1 X1 (.cells #[.int .i64 0, .slice none 0 0, .slice none 0 0] 28)).mono HG1.out.size)
            have hA2 := hA.trans ((bel1 (X1.alloc (.cells #[.int .i64 0, .slice none 0 0, .slice none 0 0] 28)) (.cells #[.string x] 9)).mono hA.size)
            have HA2 := Lib.hid hA2
            refine hK.out _ _ ⟨hA, fun _ => trivial, fun _ => trivial⟩ (fun hS => ?_)
            clear hK K
            try simp only [Act.put, List.setIfInBounds_toArray, List.set_cons_zero, List.set_cons_succ]
            refine wpG_ready (rs := [14]) (by kernel_rfl) (by simp) ?_
            refine RG.consG rfl rfl (fun K hK => ?_) RG.nil
            go_simp
            refine hK.out _ _ ⟨hA2, fun _ => trivial, fun _ => trivial⟩ (fun hS => ?_)
            clear hK K
            try simp only [Act.put, List.setIfInBounds_toArray, List.set_cons_zero, List.set_cons_succ]
            obtain ⟨XX, hXX⟩ : ∃ XX, XX = (X1.alloc (.cells #[.int .i64 0, .slice none 0 0, .slice none 0 0] 28)).alloc (.cells #[.string x] 9) := ⟨_, rfl⟩
            rw [← hXX] at HV HA2 hS ⊢
            clear hA hA2 hXX
            refine wpG_take0 (i := 16) (v := ?v17) rfl (by kernel_rfl) (by kernel_rfl) (by kernel_rfl) (by decide) (by decide) (fun _ _ _ h => h) hS (Or.inl ⟨by rfl, ?hy17⟩) ?rest17
            case hy17 => (intro w' hw; (try dsimp only at hw); have u0 := fun j => (hw.cell (p := ⟨w5.heap.size, j, none⟩) lbx).trans (bx j); have u1 := fun j => (hw.cell (p := ⟨w2.heap.size, j, none⟩) l9).trans (c9 j); have u3 := (hw.cell (p := ⟨g1, o1 + i * 5, none⟩) hg6).trans y0; have u4 := (hw.cell (p := ⟨g1, o1 + i * 5 + 1, none⟩) hg6).trans y1; have u5 := (hw.cell (p := ⟨g1, o1 + i * 5 + 2, none⟩) hg6).trans y2; have u6 := (hw.cell (p := ⟨g1, o1 + i * 5 + 3, none⟩) hg6).trans y3; have u7 := (hw.cell (p := ⟨g1, o1 + i * 5 + 4, none⟩) hg6).trans y4; go_simp; try with_reducible rfl)
            replace hS := SG.set (i := 16) (by decide) (by decide) hS
            try simp only [Act.put, List.setIfInBounds_toArray, List.set_cons_zero, List.set_cons_succ]
            refine wpG_ready (rs := [17]) (by kernel_rfl) (by simp) ?_
            refine RG.consG rfl rfl (fun K hK => ?_) RG.nil
            go_simp
            refine (CT1.out _ x _ (h36.out.trans (HA2.out.mono h36.out.size)) HV.out _ _).mono ?_
            rintro e x2 ⟨rfl, hx2⟩
            go_wp2_with fail
            have HG2 := Lib.hid (HA2.out.trans (hx2.mono HA2.out.size))
            clear hx2
            refine hK.out _ _ ⟨HG2.out, fun _ => trivial, fun _ => trivial⟩ (fun hS => ?_)
            clear hK K
            try simp only [Act.put, List.setIfInBounds_toArray, List.set_cons_zero, List.set_cons_succ]
            refine wpG_take0 (i := 18) (v := ?v18) rfl (by kernel_rfl) (by kernel_rfl) (by kernel_rfl) (by decide) (by decide) (fun _ _ _ h => h) hS (Or.inl ⟨by rfl, ?hy18⟩) ?rest18
            case hy18 => (intro w' hw; (try dsimp only at hw); have u0 := fun j => (hw.cell (p := ⟨w5.heap.size, j, none⟩) lbx).trans (bx j); have u1 := fun j => (hw.cell (p := ⟨w2.heap.size, j, none⟩) l9).trans (c9 j); have u3 := (hw.cell (p := ⟨g1, o1 + i * 5, none⟩) hg6).trans y0; have u4 := (hw.cell (p := ⟨g1, o1 + i * 5 + 1, none⟩) hg6).trans y1; have u5 := (hw.cell (p := ⟨g1, o1 + i * 5 + 2, none⟩) hg6).trans y2; have u6 := (hw.cell (p := ⟨g1, o1 + i * 5 + 3, none⟩) hg6).trans y3; have u7 := (hw.cell (p := ⟨g1, o1 + i * 5 + 4, none⟩) hg6).trans y4; go_simp; try with_reducible rfl)
            replace hS := SG.set (i := 18) (by decide) (by decide) hS
            try simp only [Act.put, List.setIfInBounds_toArray, List.set_cons_zero, List.set_cons_succ]
            refine wpG_take0 (i := 19) (v := ?v19) rfl (by kernel_rfl) (by kernel_rfl) (by kernel_rfl) (by decide) (by decide) (fun _ _ _ h => h) hS (Or.inl ⟨by rfl, ?hy19⟩) ?rest19
            case hy19 => (intro w' hw; (try dsimp only at hw); have u0 := fun j => (hw.cell (p := ⟨w5.heap.size, j, none⟩) lbx).trans (bx j); have u1 := fun j => (hw.cell (p := ⟨w2.heap.size, j, none⟩) l9).trans (c9 j); have u3 := (hw.cell (p := ⟨g1, o1 + i * 5, none⟩) hg6).trans y0; have u4 := (hw.cell (p := ⟨g1, o1 + i * 5 + 1, none⟩) hg6).trans y1; have u5 := (hw.cell (p := ⟨g1, o1 + i * 5 + 2, none⟩) hg6).trans y2; have u6 := (hw.cell (p := ⟨g1, o1 + i * 5 + 3, none⟩) hg6).trans y3; have u7 := (hw.cell (p := ⟨g1, o1 + i * 5 + 4, none⟩) hg6).trans y4; go_simp; try with_reducible rfl)
            replace hS := SG.set (i := 19) (by decide) (by decide) hS
            try simp only [Act.put, List.setIfInBounds_toArray, List.set_cons_zero, List.set_cons_succ]
            refine wpG_done (by kernel_rfl) ?_ _
            have HBF := Lib.hid (HBq6.out.trans (HG2.out.mono HBq6.out.size))
            clear hS CS bx lbx D6 y0 y1 y2 y3 y4 HG1 HG2 HV HA2 HTI
            cases q with
            | true =>
              go_wp2_with fail
              go_roundg (n - j)
              case measure => omega
              case rel => exact ⟨j, true, by rw [hj]; go_num, by first | rfl | simp, by omega, by omega, by rw [HTK.out]; rfl, HBF.out⟩
            | false =>
              go_wp2_with fail
              go_roundg (n - j)
              case measure => omega
              case rel => exact ⟨j, bb, by rw [hj]; go_num, by first | rfl | simp, by omega, by omega, by rw [HTK.out]; rfl, HBF.out⟩
        · have hil2 : ¬ (i : Int) < (n : Int) := by omega
          obtain rfl : n = i := by omega
          have hQ := HQ.out
          rw [List.take_of_length_le (by rw [← HN.out]; exact Nat.le_refl _), ← HFX.out.2] at hQ
          have CT1q : Hid (∀ w' (_ : ByteArray) g, Below w3.heap.size w3 w' → NV w' (fun _ => True) [nm] (some ⟨g, 0, none⟩) 1 → ∀ B d, Calls Tryd.prog 20 #[.agg #[.int .i64 k3.kind, .int .i64 k3.n, .string k3.s, .slice Bn1 n3.length dn1, .slice B1 p3.length d1], .agg #[.int .i64 3, .slice (some ⟨g, 0, none⟩) 1 1, .slice B 1 d]] w' fun e w2 => e = .returned (.bool q) ∧ Below w'.heap.size w' w2) := fun w' _ g hb hM B d => by
            have := CT1.out w' nm g hb hM B d
            rw [← hQ] at this
            exact this
          clear CT1 HQ hQ
          have CT1 := CT1q
          clear CT1q hi2
          have h35 := HBq
          have HB5 := HBw
          have R6 := R9.out.below HBq.out R9.out.lt
          have c9 := R6.cell
          have l9 := R6.lt
          have D5 : Below wr.heap.size wr wr.drew := Below.drew (Below.refl _ _)
          have HTB := Lib.hid (HT.out.step HBw.out)
          clear R6
          go_upto_region 23 with fail
          refine wp_region_G (S := SG (fun w' => Below wr.heap.size wr w') 99 (fun _ => True) 99 (fun _ => True)) (by kernel_rfl) ⟨D5, fun _ => trivial, fun _ => trivial⟩ (fun hS => ?_)
          refine wpG_ready (rs := [0]) (by kernel_rfl) (by simp) ?_
          refine RG.consG rfl rfl (fun K hK => ?_) RG.nil
          go_simp
          refine (awake_any _ (HTB.out.step D5)).mono ?_
          rintro e x1 ⟨rfl, hx1⟩
          go_wp2_with fail
          have HG1 := Lib.hid (D5.trans (hx1.mono D5.size))
          clear hx1
          refine hK.out _ _ ⟨HG1.out, fun _ => trivial, fun _ => trivial⟩ (fun hS => ?_)
          clear hK K
          try simp only [Act.put, List.setIfInBounds_toArray, List.set_cons_zero, List.set_cons_succ]
          refine wpG_take0 (i := 1) (v := ?v20) rfl (by kernel_rfl) (by kernel_rfl) (by kernel_rfl) (by decide) (by decide) (fun _ _ _ h => h) hS (Or.inl ⟨by rfl, ?hy20⟩) ?rest20
          case hy20 => (intro w' hw; (try dsimp only at hw); have u1 := fun j => (hw.cell (p := ⟨w2.heap.size, j, none⟩) l9).trans (c9 j); go_simp; try with_reducible rfl)
          replace hS := SG.set (i := 1) (by decide) (by decide) hS
          try simp only [Act.put, List.setIfInBounds_toArray, List.set_cons_zero, List.set_cons_succ]
          refine wpG_take0 (i := 2) (v := ?v21) rfl (by kernel_rfl) (by kernel_rfl) (by kernel_rfl) (by decide) (by decide) (fun _ _ _ h => h) hS (Or.inl ⟨by rfl, ?hy21⟩) ?rest21
          case hy21 => (intro w' hw; (try dsimp only at hw); have u1 := fun j => (hw.cell (p := ⟨w2.heap.size, j, none⟩) l9).trans (c9 j); go_simp; try with_reducible rfl)
          replace hS := SG.set (i := 2) (by decide) (by decide) hS
          try simp only [Act.put, List.setIfInBounds_toArray, List.set_cons_zero, List.set_cons_succ]
          refine wpG_take0 (i := 3) (v := ?v22) rfl (by kernel_rfl) (by kernel_rfl) (by kernel_rfl) (by decide) (by decide) (fun _ _ _ h => h) hS (Or.inl ⟨by rfl, ?hy22⟩) ?rest22
          case hy22 => (intro w' hw; (try dsimp only at hw); have u1 := fun j => (hw.cell (p := ⟨w2.heap.size, j, none⟩) l9).trans (c9 j); go_simp; try with_reducible rfl)
          replace hS := SG.set (i := 3) (by decide) (by decide) hS
          try simp only [Act.put, List.setIfInBounds_toArray, List.set_cons_zero, List.set_cons_succ]
          refine wpG_take0 (i := 8) (v := ?v23) rfl (by kernel_rfl) (by kernel_rfl) (by kernel_rfl) (by decide) (by decide) (fun _ _ _ h => h) hS (Or.inl ⟨by rfl, ?hy23⟩) ?rest23
          case hy23 => (intro w' hw; (try dsimp only at hw); have u1 := fun j => (hw.cell (p := ⟨w2.heap.size, j, none⟩) l9).trans (c9 j); go_simp; try with_reducible rfl)
          replace hS := SG.set (i := 8) (by decide) (by decide) hS
          try simp only [Act.put, List.setIfInBounds_toArray, List.set_cons_zero, List.set_cons_succ]
          obtain ⟨X1, hX1⟩ : ∃ X1, X1 = x1 := ⟨_, rfl⟩
          rw [← hX1] at HG1 hS ⊢
          clear hX1
          refine wpG_ready (rs := [4, 5]) (by kernel_rfl) (by simp) ?_
          refine RG.consG rfl rfl (fun K hK => ?_) (RG.consG rfl rfl (fun K hK => ?_) RG.nil)
          · skip
            go_simp
            have HV := Lib.hid (nv_first X1 nm HSZnm.out)
            have hA := HG1.out.trans ((bel1 X1 (.cells #[.string nm] 9)).mono HG1.out.size)
            have hA2 := hA.trans ((bel1 (X1.alloc (.cells #[.string nm] 9)) (.cells #[.int .i64 0, .slice none 0 0, .slice none 0 0] 28)).mono hA.size)
            have HA2 := Lib.hid hA2
            refine hK.out _ _ ⟨hA, fun _ => trivial, fun _ => trivial⟩ (fun hS => ?_)
            clear hK K
            try simp only [Act.put, List.setIfInBounds_toArray, List.set_cons_zero, List.set_cons_succ]
            refine wpG_ready (rs := [5]) (by kernel_rfl) (by simp) ?_
            refine RG.consG rfl rfl (fun K hK => ?_) RG.nil
            go_simp
            refine hK.out _ _ ⟨hA2, fun _ => trivial, fun _ => trivial⟩ (fun hS => ?_)
            clear hK K
            try simp only [Act.put, List.setIfInBounds_toArray, List.set_cons_zero, List.set_cons_succ]
            obtain ⟨XX, hXX⟩ : ∃ XX, XX = (X1.alloc (.cells #[.string nm] 9)).alloc (.cells #[.int .i64 0, .slice none 0 0, .slice none 0 0] 28) := ⟨_, rfl⟩
            rw [← hXX] at HV HA2 hS ⊢
            clear hA hA2 hXX
            refine wpG_take0 (i := 6) (v := ?v24) rfl (by kernel_rfl) (by kernel_rfl) (by kernel_rfl) (by decide) (by decide) (fun _ _ _ h => h) hS (Or.inl ⟨by rfl, ?hy24⟩) ?rest24
            case hy24 => (intro w' hw; (try dsimp only at hw); have u1 := fun j => (hw.cell (p := ⟨w2.heap.size, j, none⟩) l9).trans (c9 j); go_simp; try with_reducible rfl)
            replace hS := SG.set (i := 6) (by decide) (by decide) hS
            try simp only [Act.put, List.setIfInBounds_toArray, List.set_cons_zero, List.set_cons_succ]
            refine wpG_ready (rs := [7]) (by kernel_rfl) (by simp) ?_
            refine RG.consG rfl rfl (fun K hK => ?_) RG.nil
            go_simp
            refine (CT1.out _ nm _ (h35.out.trans (HA2.out.mono h35.out.size)) HV.out _ _).mono ?_
            rintro e x2 ⟨rfl, hx2⟩
            go_wp2_with fail
            have HG2 := Lib.hid (HA2.out.trans (hx2.mono HA2.out.size))
            clear hx2
            refine hK.out _ _ ⟨HG2.out, fun _ => trivial, fun _ => trivial⟩ (fun hS => ?_)
            clear hK K
            try simp only [Act.put, List.setIfInBounds_toArray, List.set_cons_zero, List.set_cons_succ]
            refine wpG_take0 (i := 9) (v := ?v25) rfl (by kernel_rfl) (by kernel_rfl) (by kernel_rfl) (by decide) (by decide) (fun _ _ _ h => h) hS (Or.inl ⟨by rfl, ?hy25⟩) ?rest25
            case hy25 => (intro w' hw; (try dsimp only at hw); have u1 := fun j => (hw.cell (p := ⟨w2.heap.size, j, none⟩) l9).trans (c9 j); go_simp; try with_reducible rfl)
            replace hS := SG.set (i := 9) (by decide) (by decide) hS
            try simp only [Act.put, List.setIfInBounds_toArray, List.set_cons_zero, List.set_cons_succ]
            refine wpG_take0 (i := 10) (v := ?v26) rfl (by kernel_rfl) (by kernel_rfl) (by kernel_rfl) (by decide) (by decide) (fun _ _ _ h => h) hS (Or.inl ⟨by rfl, ?hy26⟩) ?rest26
            case hy26 => (intro w' hw; (try dsimp only at hw); have u1 := fun j => (hw.cell (p := ⟨w2.heap.size, j, none⟩) l9).trans (c9 j); go_simp; try with_reducible rfl)
            replace hS := SG.set (i := 10) (by decide) (by decide) hS
            try simp only [Act.put, List.setIfInBounds_toArray, List.set_cons_zero, List.set_cons_succ]
            refine wpG_take0 (i := 11) (v := ?v27) rfl (by kernel_rfl) (by kernel_rfl) (by kernel_rfl) (by decide) (by decide) (fun _ _ _ h => h) hS (Or.inl ⟨by rfl, ?hy27⟩) ?rest27
            case hy27 => (intro w' hw; (try dsimp only at hw); have u1 := fun j => (hw.cell (p := ⟨w2.heap.size, j, none⟩) l9).trans (c9 j); go_simp; try with_reducible rfl)
            replace hS := SG.set (i := 11) (by decide) (by decide) hS
            try simp only [Act.put, List.setIfInBounds_toArray, List.set_cons_zero, List.set_cons_succ]
            refine wpG_take0 (i := 12) (v := ?v28) rfl (by kernel_rfl) (by kernel_rfl) (by kernel_rfl) (by decide) (by decide) (fun _ _ _ h => h) hS (Or.inl ⟨by rfl, ?hy28⟩) ?rest28
            case hy28 => (intro w' hw; (try dsimp only at hw); have u1 := fun j => (hw.cell (p := ⟨w2.heap.size, j, none⟩) l9).trans (c9 j); go_simp; try with_reducible rfl)
            replace hS := SG.set (i := 12) (by decide) (by decide) hS
            try simp only [Act.put, List.setIfInBounds_toArray, List.set_cons_zero, List.set_cons_succ]
            refine wpG_take0 (i := 13) (v := ?v29) rfl (by kernel_rfl) (by kernel_rfl) (by kernel_rfl) (by decide) (by decide) (fun _ _ _ h => h) hS (Or.inl ⟨by rfl, ?hy29⟩) ?rest29
            case hy29 => (intro w' hw; (try dsimp only at hw); have u1 := fun j => (hw.cell (p := ⟨w2.heap.size, j, none⟩) l9).trans (c9 j); go_simp; try with_reducible rfl)
            replace hS := SG.set (i := 13) (by decide) (by decide) hS
            try simp only [Act.put, List.setIfInBounds_toArray, List.set_cons_zero, List.set_cons_succ]
            refine wpG_ready (rs := [14]) (by kernel_rfl) (by simp) ?_
            refine RG.consG rfl rfl (fun K hK => ?_) RG.nil
            go_simp
            refine (CT2.out _ (h35.out.trans (HG2.out.mono h35.out.size))).mono ?_
            rintro e x3 ⟨rfl, hx3⟩
            go_wp2_with fail
            have HG3 := Lib.hid (HG2.out.trans (hx3.mono HG2.out.size))
            clear hx3
            refine hK.out _ _ ⟨HG3.out, fun _ => trivial, fun _ => trivial⟩ (fun hS => ?_)
            clear hK K
            try simp only [Act.put, List.setIfInBounds_toArray, List.set_cons_zero, List.set_cons_succ]
            refine wpG_take0 (i := 15) (v := ?v30) rfl (by kernel_rfl) (by kernel_rfl) (by kernel_rfl) (by decide) (by decide) (fun _ _ _ h => h) hS (Or.inl ⟨by rfl, ?hy30⟩) ?rest30
            case hy30 => (intro w' hw; (try dsimp only at hw); have u1 := fun j => (hw.cell (p := ⟨w2.heap.size, j, none⟩) l9).trans (c9 j); go_simp; try with_reducible rfl)
            replace hS := SG.set (i := 15) (by decide) (by decide) hS
            try simp only [Act.put, List.setIfInBounds_toArray, List.set_cons_zero, List.set_cons_succ]
            refine wpG_take0 (i := 16) (v := ?v31) rfl (by kernel_rfl) (by kernel_rfl) (by kernel_rfl) (by decide) (by decide) (fun _ _ _ h => h) hS (Or.inl ⟨by rfl, ?hy31⟩) ?rest31
            case hy31 => (intro w' hw; (try dsimp only at hw); have u1 := fun j => (hw.cell (p := ⟨w2.heap.size, j, none⟩) l9).trans (c9 j); go_simp; try with_reducible rfl)
            replace hS := SG.set (i := 16) (by decide) (by decide) hS
            try simp only [Act.put, List.setIfInBounds_toArray, List.set_cons_zero, List.set_cons_succ]
            refine wpG_take0 (i := 17) (v := ?v32) rfl (by kernel_rfl) (by kernel_rfl) (by kernel_rfl) (by decide) (by decide) (fun _ _ _ h => h) hS (Or.inl ⟨by rfl, ?hy32⟩) ?rest32
            case hy32 => (intro w' hw; (try dsimp only at hw); have u1 := fun j => (hw.cell (p := ⟨w2.heap.size, j, none⟩) l9).trans (c9 j); go_simp; try with_reducible rfl)
            replace hS := SG.set (i := 17) (by decide) (by decide) hS
            try simp only [Act.put, List.setIfInBounds_toArray, List.set_cons_zero, List.set_cons_succ]
            refine wpG_take0 (i := 18) (v := ?v33) rfl (by kernel_rfl) (by kernel_rfl) (by kernel_rfl) (by decide) (by decide) (fun _ _ _ h => h) hS (Or.inl ⟨by rfl, ?hy33⟩) ?rest33
            case hy33 => (intro w' hw; (try dsimp only at hw); have u1 := fun j => (hw.cell (p := ⟨w2.heap.size, j, none⟩) l9).trans (c9 j); go_simp; try with_reducible rfl)
            replace hS := SG.set (i := 18) (by decide) (by decide) hS
            try simp only [Act.put, List.setIfInBounds_toArray, List.set_cons_zero, List.set_cons_succ]
            refine wpG_ready (rs := [19]) (by kernel_rfl) (by simp) ?_
            refine RG.consG rfl rfl (fun K hK => ?_) RG.nil
            go_simp
            refine (CT3.out _ (h35.out.trans (HG3.out.mono h35.out.size))).mono ?_
            rintro e x4 ⟨rfl, hx4⟩
            go_wp2_with fail
            have HG4 := Lib.hid (HG3.out.trans (hx4.mono HG3.out.size))
            clear hx4
            refine hK.out _ _ ⟨HG4.out, fun _ => trivial, fun _ => trivial⟩ (fun hS => ?_)
            clear hK K
            try simp only [Act.put, List.setIfInBounds_toArray, List.set_cons_zero, List.set_cons_succ]
            refine wpG_take0 (i := 20) (v := ?v34) rfl (by kernel_rfl) (by kernel_rfl) (by kernel_rfl) (by decide) (by decide) (fun _ _ _ h => h) hS (Or.inl ⟨by rfl, ?hy34⟩) ?rest34
            case hy34 => (intro w' hw; (try dsimp only at hw); have u1 := fun j => (hw.cell (p := ⟨w2.heap.size, j, none⟩) l9).trans (c9 j); go_simp; try with_reducible rfl)
            replace hS := SG.set (i := 20) (by decide) (by decide) hS
            try simp only [Act.put, List.setIfInBounds_toArray, List.set_cons_zero, List.set_cons_succ]
            refine wpG_take0 (i := 21) (v := ?v35) rfl (by kernel_rfl) (by kernel_rfl) (by kernel_rfl) (by decide) (by decide) (fun _ _ _ h => h) hS (Or.inl ⟨by rfl, ?hy35⟩) ?rest35
            case hy35 => (intro w' hw; (try dsimp only at hw); have u1 := fun j => (hw.cell (p := ⟨w2.heap.size, j, none⟩) l9).trans (c9 j); go_simp; try with_reducible rfl)
            replace hS := SG.set (i := 21) (by decide) (by decide) hS
            try simp only [Act.put, List.setIfInBounds_toArray, List.set_cons_zero, List.set_cons_succ]
            refine wpG_take0 (i := 22) (v := ?v36) rfl (by kernel_rfl) (by kernel_rfl) (by kernel_rfl) (by decide) (by decide) (fun _ _ _ h => h) hS (Or.inl ⟨by rfl, ?hy36⟩) ?rest36
            case hy36 => (intro w' hw; (try dsimp only at hw); have u1 := fun j => (hw.cell (p := ⟨w2.heap.size, j, none⟩) l9).trans (c9 j); go_simp; try with_reducible rfl)
            replace hS := SG.set (i := 22) (by decide) (by decide) hS
            try simp only [Act.put, List.setIfInBounds_toArray, List.set_cons_zero, List.set_cons_succ]
            refine wpG_take0 (i := 23) (v := ?v37) rfl (by kernel_rfl) (by kernel_rfl) (by kernel_rfl) (by decide) (by decide) (fun _ _ _ h => h) hS (Or.inl ⟨by rfl, ?hy37⟩) ?rest37
            case hy37 => (intro w' hw; (try dsimp only at hw); have u1 := fun j => (hw.cell (p := ⟨w2.heap.size, j, none⟩) l9).trans (c9 j); go_simp; try with_reducible rfl)
            replace hS := SG.set (i := 23) (by decide) (by decide) hS
            try simp only [Act.put, List.setIfInBounds_toArray, List.set_cons_zero, List.set_cons_succ]
            refine wpG_ready (rs := [24]) (by kernel_rfl) (by simp) ?_
            refine RG.consG rfl rfl (fun K hK => ?_) RG.nil
            go_simp
            refine (CT4.out _ (h35.out.trans (HG4.out.mono h35.out.size))).mono ?_
            rintro e x5 ⟨rfl, hx5⟩
            go_wp2_with fail
            have HG5 := Lib.hid (HG4.out.trans (hx5.mono HG4.out.size))
            clear hx5
            refine hK.out _ _ ⟨HG5.out, fun _ => trivial, fun _ => trivial⟩ (fun hS => ?_)
            clear hK K
            try simp only [Act.put, List.setIfInBounds_toArray, List.set_cons_zero, List.set_cons_succ]
            refine wpG_take0 (i := 25) (v := ?v38) rfl (by kernel_rfl) (by kernel_rfl) (by kernel_rfl) (by decide) (by decide) (fun _ _ _ h => h) hS (Or.inl ⟨by rfl, ?hy38⟩) ?rest38
            case hy38 => (intro w' hw; (try dsimp only at hw); have u1 := fun j => (hw.cell (p := ⟨w2.heap.size, j, none⟩) l9).trans (c9 j); go_simp; try with_reducible rfl)
            replace hS := SG.set (i := 25) (by decide) (by decide) hS
            try simp only [Act.put, List.setIfInBounds_toArray, List.set_cons_zero, List.set_cons_succ]
            refine wpG_take0 (i := 26) (v := ?v39) rfl (by kernel_rfl) (by kernel_rfl) (by kernel_rfl) (by decide) (by decide) (fun _ _ _ h => h) hS (Or.inl ⟨by rfl, ?hy39⟩) ?rest39
            case hy39 => (intro w' hw; (try dsimp only at hw); have u1 := fun j => (hw.cell (p := ⟨w2.heap.size, j, none⟩) l9).trans (c9 j); go_simp; try with_reducible rfl)
            replace hS := SG.set (i := 26) (by decide) (by decide) hS
            try simp only [Act.put, List.setIfInBounds_toArray, List.set_cons_zero, List.set_cons_succ]
            refine wpG_take0 (i := 27) (v := ?v40) rfl (by kernel_rfl) (by kernel_rfl) (by kernel_rfl) (by decide) (by decide) (fun _ _ _ h => h) hS (Or.inl ⟨by rfl, ?hy40⟩) ?rest40
            case hy40 => (intro w' hw; (try dsimp only at hw); have u1 := fun j => (hw.cell (p := ⟨w2.heap.size, j, none⟩) l9).trans (c9 j); go_simp; try with_reducible rfl)
            replace hS := SG.set (i := 27) (by decide) (by decide) hS
            try simp only [Act.put, List.setIfInBounds_toArray, List.set_cons_zero, List.set_cons_succ]
            refine wpG_done (by kernel_rfl) ?_ _
            clear hS
            go_wp2_with fail
            (first | go_ret | go_ret2)
            exact ⟨rfl, HB5.out.trans (HG5.out.mono HB5.out.size)⟩
          · skip
            go_simp
            have HV := Lib.hid (nv_second X1 nm HSZnm.out)
            have hA := HG1.out.trans ((bel1 X1 (.cells #[.int .i64 0, .slice none 0 0, .slice none 0 0] 28)).mono HG1.out.size)
            have hA2 := hA.trans ((bel1 (X1.alloc (.cells #[.int .i64 0, .slice none 0 0, .slice none 0 0] 28)) (.cells #[.string nm] 9)).mono hA.size)
            have HA2 := Lib.hid hA2
            refine hK.out _ _ ⟨hA, fun _ => trivial, fun _ => trivial⟩ (fun hS => ?_)
            clear hK K
            try simp only [Act.put, List.setIfInBounds_toArray, List.set_cons_zero, List.set_cons_succ]
            refine wpG_ready (rs := [4]) (by kernel_rfl) (by simp) ?_
            refine RG.consG rfl rfl (fun K hK => ?_) RG.nil
            go_simp
            refine hK.out _ _ ⟨hA2, fun _ => trivial, fun _ => trivial⟩ (fun hS => ?_)
            clear hK K
            try simp only [Act.put, List.setIfInBounds_toArray, List.set_cons_zero, List.set_cons_succ]
            obtain ⟨XX, hXX⟩ : ∃ XX, XX = (X1.alloc (.cells #[.int .i64 0, .slice none 0 0, .slice none 0 0] 28)).alloc (.cells #[.string nm] 9) := ⟨_, rfl⟩
            rw [← hXX] at HV HA2 hS ⊢
            clear hA hA2 hXX
            refine wpG_take0 (i := 6) (v := ?v41) rfl (by kernel_rfl) (by kernel_rfl) (by kernel_rfl) (by decide) (by decide) (fun _ _ _ h => h) hS (Or.inl ⟨by rfl, ?hy41⟩) ?rest41
            case hy41 => (intro w' hw; (try dsimp only at hw); have u1 := fun j => (hw.cell (p := ⟨w2.heap.size, j, none⟩) l9).trans (c9 j); go_simp; try with_reducible rfl)
            replace hS := SG.set (i := 6) (by decide) (by decide) hS
            try simp only [Act.put, List.setIfInBounds_toArray, List.set_cons_zero, List.set_cons_succ]
            refine wpG_ready (rs := [7]) (by kernel_rfl) (by simp) ?_
            refine RG.consG rfl rfl (fun K hK => ?_) RG.nil
            go_simp
            refine (CT1.out _ nm _ (h35.out.trans (HA2.out.mono h35.out.size)) HV.out _ _).mono ?_
            rintro e x2 ⟨rfl, hx2⟩
            go_wp2_with fail
            have HG2 := Lib.hid (HA2.out.trans (hx2.mono HA2.out.size))
            clear hx2
            refine hK.out _ _ ⟨HG2.out, fun _ => trivial, fun _ => trivial⟩ (fun hS => ?_)
            clear hK K
            try simp only [Act.put, List.setIfInBounds_toArray, List.set_cons_zero, List.set_cons_succ]
            refine wpG_take0 (i := 9) (v := ?v42) rfl (by kernel_rfl) (by kernel_rfl) (by kernel_rfl) (by decide) (by decide) (fun _ _ _ h => h) hS (Or.inl ⟨by rfl, ?hy42⟩) ?rest42
            case hy42 => (intro w' hw; (try dsimp only at hw); have u1 := fun j => (hw.cell (p := ⟨w2.heap.size, j, none⟩) l9).trans (c9 j); go_simp; try with_reducible rfl)
            replace hS := SG.set (i := 9) (by decide) (by decide) hS
            try simp only [Act.put, List.setIfInBounds_toArray, List.set_cons_zero, List.set_cons_succ]
            refine wpG_take0 (i := 10) (v := ?v43) rfl (by kernel_rfl) (by kernel_rfl) (by kernel_rfl) (by decide) (by decide) (fun _ _ _ h => h) hS (Or.inl ⟨by rfl, ?hy43⟩) ?rest43
            case hy43 => (intro w' hw; (try dsimp only at hw); have u1 := fun j => (hw.cell (p := ⟨w2.heap.size, j, none⟩) l9).trans (c9 j); go_simp; try with_reducible rfl)
            replace hS := SG.set (i := 10) (by decide) (by decide) hS
            try simp only [Act.put, List.setIfInBounds_toArray, List.set_cons_zero, List.set_cons_succ]
            refine wpG_take0 (i := 11) (v := ?v44) rfl (by kernel_rfl) (by kernel_rfl) (by kernel_rfl) (by decide) (by decide) (fun _ _ _ h => h) hS (Or.inl ⟨by rfl, ?hy44⟩) ?rest44
            case hy44 => (intro w' hw; (try dsimp only at hw); have u1 := fun j => (hw.cell (p := ⟨w2.heap.size, j, none⟩) l9).trans (c9 j); go_simp; try with_reducible rfl)
            replace hS := SG.set (i := 11) (by decide) (by decide) hS
            try simp only [Act.put, List.setIfInBounds_toArray, List.set_cons_zero, List.set_cons_succ]
            refine wpG_take0 (i := 12) (v := ?v45) rfl (by kernel_rfl) (by kernel_rfl) (by kernel_rfl) (by decide) (by decide) (fun _ _ _ h => h) hS (Or.inl ⟨by rfl, ?hy45⟩) ?rest45
            case hy45 => (intro w' hw; (try dsimp only at hw); have u1 := fun j => (hw.cell (p := ⟨w2.heap.size, j, none⟩) l9).trans (c9 j); go_simp; try with_reducible rfl)
            replace hS := SG.set (i := 12) (by decide) (by decide) hS
            try simp only [Act.put, List.setIfInBounds_toArray, List.set_cons_zero, List.set_cons_succ]
            refine wpG_take0 (i := 13) (v := ?v46) rfl (by kernel_rfl) (by kernel_rfl) (by kernel_rfl) (by decide) (by decide) (fun _ _ _ h => h) hS (Or.inl ⟨by rfl, ?hy46⟩) ?rest46
            case hy46 => (intro w' hw; (try dsimp only at hw); have u1 := fun j => (hw.cell (p := ⟨w2.heap.size, j, none⟩) l9).trans (c9 j); go_simp; try with_reducible rfl)
            replace hS := SG.set (i := 13) (by decide) (by decide) hS
            try simp only [Act.put, List.setIfInBounds_toArray, List.set_cons_zero, List.set_cons_succ]
            refine wpG_ready (rs := [14]) (by kernel_rfl) (by simp) ?_
            refine RG.consG rfl rfl (fun K hK => ?_) RG.nil
            go_simp
            refine (CT2.out _ (h35.out.trans (HG2.out.mono h35.out.size))).mono ?_
            rintro e x3 ⟨rfl, hx3⟩
            go_wp2_with fail
            have HG3 := Lib.hid (HG2.out.trans (hx3.mono HG2.out.size))
            clear hx3
            refine hK.out _ _ ⟨HG3.out, fun _ => trivial, fun _ => trivial⟩ (fun hS => ?_)
            clear hK K
            try simp only [Act.put, List.setIfInBounds_toArray, List.set_cons_zero, List.set_cons_succ]
            refine wpG_take0 (i := 15) (v := ?v47) rfl (by kernel_rfl) (by kernel_rfl) (by kernel_rfl) (by decide) (by decide) (fun _ _ _ h => h) hS (Or.inl ⟨by rfl, ?hy47⟩) ?rest47
            case hy47 => (intro w' hw; (try dsimp only at hw); have u1 := fun j => (hw.cell (p := ⟨w2.heap.size, j, none⟩) l9).trans (c9 j); go_simp; try with_reducible rfl)
            replace hS := SG.set (i := 15) (by decide) (by decide) hS
            try simp only [Act.put, List.setIfInBounds_toArray, List.set_cons_zero, List.set_cons_succ]
            refine wpG_take0 (i := 16) (v := ?v48) rfl (by kernel_rfl) (by kernel_rfl) (by kernel_rfl) (by decide) (by decide) (fun _ _ _ h => h) hS (Or.inl ⟨by rfl, ?hy48⟩) ?rest48
            case hy48 => (intro w' hw; (try dsimp only at hw); have u1 := fun j => (hw.cell (p := ⟨w2.heap.size, j, none⟩) l9).trans (c9 j); go_simp; try with_reducible rfl)
            replace hS := SG.set (i := 16) (by decide) (by decide) hS
            try simp only [Act.put, List.setIfInBounds_toArray, List.set_cons_zero, List.set_cons_succ]
            refine wpG_take0 (i := 17) (v := ?v49) rfl (by kernel_rfl) (by kernel_rfl) (by kernel_rfl) (by decide) (by decide) (fun _ _ _ h => h) hS (Or.inl ⟨by rfl, ?hy49⟩) ?rest49
            case hy49 => (intro w' hw; (try dsimp only at hw); have u1 := fun j => (hw.cell (p := ⟨w2.heap.size, j, none⟩) l9).trans (c9 j); go_simp; try with_reducible rfl)
            replace hS := SG.set (i := 17) (by decide) (by decide) hS
            try simp only [Act.put, List.setIfInBounds_toArray, List.set_cons_zero, List.set_cons_succ]
            refine wpG_take0 (i := 18) (v := ?v50) rfl (by kernel_rfl) (by kernel_rfl) (by kernel_rfl) (by decide) (by decide) (fun _ _ _ h => h) hS (Or.inl ⟨by rfl, ?hy50⟩) ?rest50
            case hy50 => (intro w' hw; (try dsimp only at hw); have u1 := fun j => (hw.cell (p := ⟨w2.heap.size, j, none⟩) l9).trans (c9 j); go_simp; try with_reducible rfl)
            replace hS := SG.set (i := 18) (by decide) (by decide) hS
            try simp only [Act.put, List.setIfInBounds_toArray, List.set_cons_zero, List.set_cons_succ]
            refine wpG_ready (rs := [19]) (by kernel_rfl) (by simp) ?_
            refine RG.consG rfl rfl (fun K hK => ?_) RG.nil
            go_simp
            refine (CT3.out _ (h35.out.trans (HG3.out.mono h35.out.size))).mono ?_
            rintro e x4 ⟨rfl, hx4⟩
            go_wp2_with fail
            have HG4 := Lib.hid (HG3.out.trans (hx4.mono HG3.out.size))
            clear hx4
            refine hK.out _ _ ⟨HG4.out, fun _ => trivial, fun _ => trivial⟩ (fun hS => ?_)
            clear hK K
            try simp only [Act.put, List.setIfInBounds_toArray, List.set_cons_zero, List.set_cons_succ]
            refine wpG_take0 (i := 20) (v := ?v51) rfl (by kernel_rfl) (by kernel_rfl) (by kernel_rfl) (by decide) (by decide) (fun _ _ _ h => h) hS (Or.inl ⟨by rfl, ?hy51⟩) ?rest51
            case hy51 => (intro w' hw; (try dsimp only at hw); have u1 := fun j => (hw.cell (p := ⟨w2.heap.size, j, none⟩) l9).trans (c9 j); go_simp; try with_reducible rfl)
            replace hS := SG.set (i := 20) (by decide) (by decide) hS
            try simp only [Act.put, List.setIfInBounds_toArray, List.set_cons_zero, List.set_cons_succ]
            refine wpG_take0 (i := 21) (v := ?v52) rfl (by kernel_rfl) (by kernel_rfl) (by kernel_rfl) (by decide) (by decide) (fun _ _ _ h => h) hS (Or.inl ⟨by rfl, ?hy52⟩) ?rest52
            case hy52 => (intro w' hw; (try dsimp only at hw); have u1 := fun j => (hw.cell (p := ⟨w2.heap.size, j, none⟩) l9).trans (c9 j); go_simp; try with_reducible rfl)
            replace hS := SG.set (i := 21) (by decide) (by decide) hS
            try simp only [Act.put, List.setIfInBounds_toArray, List.set_cons_zero, List.set_cons_succ]
            refine wpG_take0 (i := 22) (v := ?v53) rfl (by kernel_rfl) (by kernel_rfl) (by kernel_rfl) (by decide) (by decide) (fun _ _ _ h => h) hS (Or.inl ⟨by rfl, ?hy53⟩) ?rest53
            case hy53 => (intro w' hw; (try dsimp only at hw); have u1 := fun j => (hw.cell (p := ⟨w2.heap.size, j, none⟩) l9).trans (c9 j); go_simp; try with_reducible rfl)
            replace hS := SG.set (i := 22) (by decide) (by decide) hS
            try simp only [Act.put, List.setIfInBounds_toArray, List.set_cons_zero, List.set_cons_succ]
            refine wpG_take0 (i := 23) (v := ?v54) rfl (by kernel_rfl) (by kernel_rfl) (by kernel_rfl) (by decide) (by decide) (fun _ _ _ h => h) hS (Or.inl ⟨by rfl, ?hy54⟩) ?rest54
            case hy54 => (intro w' hw; (try dsimp only at hw); have u1 := fun j => (hw.cell (p := ⟨w2.heap.size, j, none⟩) l9).trans (c9 j); go_simp; try with_reducible rfl)
            replace hS := SG.set (i := 23) (by decide) (by decide) hS
            try simp only [Act.put, List.setIfInBounds_toArray, List.set_cons_zero, List.set_cons_succ]
            refine wpG_ready (rs := [24]) (by kernel_rfl) (by simp) ?_
            refine RG.consG rfl rfl (fun K hK => ?_) RG.nil
            go_simp
            refine (CT4.out _ (h35.out.trans (HG4.out.mono h35.out.size))).mono ?_
            rintro e x5 ⟨rfl, hx5⟩
            go_wp2_with fail
            have HG5 := Lib.hid (HG4.out.trans (hx5.mono HG4.out.size))
            clear hx5
            refine hK.out _ _ ⟨HG5.out, fun _ => trivial, fun _ => trivial⟩ (fun hS => ?_)
            clear hK K
            try simp only [Act.put, List.setIfInBounds_toArray, List.set_cons_zero, List.set_cons_succ]
            refine wpG_take0 (i := 25) (v := ?v55) rfl (by kernel_rfl) (by kernel_rfl) (by kernel_rfl) (by decide) (by decide) (fun _ _ _ h => h) hS (Or.inl ⟨by rfl, ?hy55⟩) ?rest55
            case hy55 => (intro w' hw; (try dsimp only at hw); have u1 := fun j => (hw.cell (p := ⟨w2.heap.size, j, none⟩) l9).trans (c9 j); go_simp; try with_reducible rfl)
            replace hS := SG.set (i := 25) (by decide) (by decide) hS
            try simp only [Act.put, List.setIfInBounds_toArray, List.set_cons_zero, List.set_cons_succ]
            refine wpG_take0 (i := 26) (v := ?v56) rfl (by kernel_rfl) (by kernel_rfl) (by kernel_rfl) (by decide) (by decide) (fun _ _ _ h => h) hS (Or.inl ⟨by rfl, ?hy56⟩) ?rest56
            case hy56 => (intro w' hw; (try dsimp only at hw); have u1 := fun j => (hw.cell (p := ⟨w2.heap.size, j, none⟩) l9).trans (c9 j); go_simp; try with_reducible rfl)
            replace hS := SG.set (i := 26) (by decide) (by decide) hS
            try simp only [Act.put, List.setIfInBounds_toArray, List.set_cons_zero, List.set_cons_succ]
            refine wpG_take0 (i := 27) (v := ?v57) rfl (by kernel_rfl) (by kernel_rfl) (by kernel_rfl) (by decide) (by decide) (fun _ _ _ h => h) hS (Or.inl ⟨by rfl, ?hy57⟩) ?rest57
            case hy57 => (intro w' hw; (try dsimp only at hw); have u1 := fun j => (hw.cell (p := ⟨w2.heap.size, j, none⟩) l9).trans (c9 j); go_simp; try with_reducible rfl)
            replace hS := SG.set (i := 27) (by decide) (by decide) hS
            try simp only [Act.put, List.setIfInBounds_toArray, List.set_cons_zero, List.set_cons_succ]
            refine wpG_done (by kernel_rfl) ?_ _
            clear hS
            go_wp2_with fail
            (first | go_ret | go_ret2)
            exact ⟨rfl, HB5.out.trans (HG5.out.mono HB5.out.size)⟩
end Vm
end Go.Proofs.YtbjlhdjcdinmhaaDoor
