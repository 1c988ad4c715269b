/- The law TermMakes, walked. -/
import Derived.Test.YtifkjngclkklfaaGreatDoorMHd
import Derived.Test.YtifkjngclkklfaaGreatDoorMGy
import Derived.Test.YtifkjngclkklfaaGreatDoorMGr
import Derived.Test.YtifkjngclkklfaaGreatDoorMGu
namespace Go.Proofs.YtifkjngclkklfaaGreatDoor
open Go.RowKit Go.Op
namespace Tm
/-- Both records are one. -/
theorem recs_one {ns : List ByteArray} {ps : List Ty} {t u : Ty} {z y : Int}
    (h : (z = 1 ∧ ns.length ≠ ps.length ∧ t = .mk 0 [] []) ∨ (z = 40 ∧ ns.length = ps.length ∧ ¬ ns.Nodup ∧ t = .mk 0 [] []) ∨ (z = 0 ∧ ns.length = ps.length ∧ ns.Nodup ∧ IsRec ns ps t))
    (k : (y = 1 ∧ ns.length ≠ ps.length ∧ u = .mk 0 [] []) ∨ (y = 40 ∧ ns.length = ps.length ∧ ¬ ns.Nodup ∧ u = .mk 0 [] []) ∨ (y = 0 ∧ ns.length = ps.length ∧ ns.Nodup ∧ IsRec ns ps u)) :
    z = y ∧ t = u ∧ t.names.length ≤ ns.length ∧ t.parts.length ≤ ns.length ∧ ∀ p ∈ t.parts, p ∈ ps := by
  have key : ∀ t : Ty, t = .mk 0 [] [] → t.names.length ≤ ns.length ∧ t.parts.length ≤ ns.length ∧ ∀ p ∈ t.parts, p ∈ ps := by
    rintro t rfl
    exact ⟨Nat.zero_le _, Nat.zero_le _, fun p hp => by cases hp⟩
  rcases h with ⟨rfl, h1, h2⟩ | ⟨rfl, h1, h2, h3⟩ | ⟨rfl, h1, h2, h3⟩ <;> rcases k with ⟨rfl, k1, k2⟩ | ⟨rfl, k1, k2, k3⟩ | ⟨rfl, k1, k2, k3⟩
  · exact ⟨rfl, h2.trans k2.symm, key t h2⟩
  · exact absurd k1 h1
  · exact absurd k1 h1
  · exact absurd h1 k1
  · exact ⟨rfl, h3.trans k3.symm, key t h3⟩
  · exact absurd k2 h2
  · exact absurd h1 k1
  · exact absurd h2 k2
  · exact ⟨rfl, h3.uniq k3, h3.len_le, by rw [← h3.len]; exact h3.len_le, fun p hp => h3.parts hp⟩
theorem sameL_refl (ps : List Ty) : sameL ps ps = true := by
  have := same_refl (.mk 0 [] ps)
  rw [Ty.same] at this
  simpa using this
/-- A type is itself, by the document; its parts aren't too great. -/
theorem rsame_self (t : Ty) (hn : t.names.length ≤ 1000001) (hp : t.parts.length ≤ 1000001) (hc : ∀ p ∈ t.parts, p.cnt ≤ 1000001) (w : World) (P P' : Nat → Prop) (An : Option Addr) (cn : Nat) (A : Option Addr) (c : Nat) (Bn : Option Addr) (dn : Nat) (B : Option Addr) (d : Nat) (h : TI w P t An cn A c) (h' : TI w P' t Bn dn B d) :
    Calls Tryz.prog 21 #[tv t An cn A c, tv t Bn dn B d] w fun e w' => e = .returned (.bool true) ∧ Below w.heap.size w w' := by
  obtain ⟨k, ns, ps⟩ := t
  have h1 := TI_iff.1 h
  have h2 := TI_iff.1 h'
  exact rsame_step ps ps hp hp (fun a ha b hb w P P' An cn A c Bn dn B d h h' => rsame_any a (hc a ha) b (hc b hb) w P P' An cn A c Bn dn B d h h') w P P' k k ns ns hn hn An cn A c Bn dn B d h1.1 h2.1 h1.2 h2.2 true (by rw [sameL_refl]; simp)
set_option maxHeartbeats 16000000 in
set_option maxRecDepth 100000 in
theorem tmakes_walk (w : World) (ns : List ByteArray) (P0 : Nat → Prop) (A0 : Option Addr) (c0 : Nat) (h0 : NV w P0 ns A0 c0) (ps : List Ty) (P1 : Nat → Prop) (A1 : Option Addr) (c1 : Nat) (h1 : TV w P1 ps A1 c1)
    (t : Ty) (P2 : Nat → Prop) (An : Option Addr) (cn : Nat) (A : Option Addr) (c : Nat) (h2 : TI w P2 t An cn A c) (hT : Tabs w) (hE : Errs w) :
    Calls Tryz.prog 4 #[.slice A0 ns.length c0, .slice A1 ps.length c1, tv t An cn A c] w fun e w' => e = .returned (.bool true) ∧ Below w.heap.size w w' := by
  obtain ⟨n, hn⟩ : ∃ n, n = ns.length := ⟨_, rfl⟩
  obtain ⟨m, hm⟩ : ∃ m, m = ps.length := ⟨_, rfl⟩
  rw [← hn, ← hm]
  have HN := Lib.hid hn
  have HM := Lib.hid hm
  obtain ⟨P, hP⟩ : ∃ P : Nat → Prop, P = fun g => P0 g ∨ P1 g := ⟨_, rfl⟩
  have HNV : Hid (NV w P ns A0 c0) := h0.mono fun g h => by rw [hP]; exact .inl h
  have HTV : Hid (TV w P ps A1 c1) := h1.mono fun g h => by rw [hP]; exact .inr h
  have HTT := Lib.hid h2
  have HT := Lib.hid hT
  have HE := Lib.hid hE
  clear hn hm h0 h1 hT hE hP h2
  obtain ⟨lt, hlt⟩ : ∃ l, l = t.light := ⟨_, rfl⟩
  have HLT := Lib.hid hlt
  obtain ⟨w0, hw0⟩ : ∃ w0, w0 = w.alloc (.cells (tarr t.kind An t.names.length cn A t.parts.length c) 25) := ⟨_, rfl⟩
  have B0 : Hid (Below w.heap.size w w0) := by rw [hw0]; exact bel1 w _
  have R5 : Hid (RowB w0 w.heap.size 25 (tarr t.kind An t.names.length cn A t.parts.length c)) := by rw [hw0]; exact RowB.new w 25 _
  have CL := Lib.hid (light_any w0 t _ An cn A c (HTT.out.below B0.out))
  rw [← hlt] at CL
  clear hlt
  obtain ⟨kt, nt, pt⟩ := t
  simp only [tarr, tv, kind_mk, names_mk, parts_mk] at hw0 R5 CL ⊢
  have HW0 := Lib.hid hw0
  have e0 := HW0.out
  clear hw0
  go_enter Tryz.func4, Tryz.ntmps4
  by_cases hn : n ≤ 30
  case neg =>
    have q1 : (n : Int) > 30 := by omega
    go_wp2_with fail
    rw [← e0]
    clear hn e0 CL R5 HNV HTV HN HM HTT HLT
    have CA := Lib.hid (awake9_any _ (Tabs.step HT.out B0.out) (HE.out.below B0.out))
    go_wp2_with fail
    refine CA.out.mono ?_
    rintro e w9 ⟨rfl, hb9⟩
    have HB9 := Lib.hid (B0.out.trans (hb9.mono B0.out.size))
    clear hb9 CA
    go_wp2_with fail
    (first | go_ret | go_ret2)
    exact ⟨rfl, HB9.out⟩
  by_cases hm : m ≤ 30
  case neg =>
    have q1 : ¬ (n : Int) > 30 := by omega
    have q2 : (m : Int) > 30 := by omega
    go_wp2_with fail
    rw [← e0]
    clear hn hm e0 CL R5 HNV HTV HN HM HTT HLT
    have CA := Lib.hid (awake9_any _ (Tabs.step HT.out B0.out) (HE.out.below B0.out))
    go_wp2_with fail
    refine CA.out.mono ?_
    rintro e w9 ⟨rfl, hb9⟩
    have HB9 := Lib.hid (B0.out.trans (hb9.mono B0.out.size))
    clear hb9 CA
    go_wp2_with fail
    (first | go_ret | go_ret2)
    exact ⟨rfl, HB9.out⟩
  have q1 : ¬ (n : Int) > 30 := by omega
  have q2 : ¬ (m : Int) > 30 := by omega
  have r5 := R5.out.cell
  go_wp2_with fail
  rw [← e0]
  refine CL.out.mono ?_
  rintro e wl ⟨rfl, hl⟩
  have HB0 := Lib.hid (B0.out.trans (hl.mono B0.out.size))
  have R5l := Lib.hid (R5.out.below hl R5.out.lt)
  clear hl CL r5 e0 HW0
  cases lt with
  | false =>
    skip
    have CA := Lib.hid (awake9_any _ (Tabs.step HT.out HB0.out) (HE.out.below HB0.out))
    go_wp2_with fail
    refine CA.out.mono ?_
    rintro e w9 ⟨rfl, hb9⟩
    have HB9 := Lib.hid (HB0.out.trans (hb9.mono HB0.out.size))
    clear hb9 CA
    go_wp2_with fail
    (first | go_ret | go_ret2)
    exact ⟨rfl, HB9.out⟩
  | true =>
  have HTT0 := Lib.hid (HTT.out.below HB0.out)
  have HCT : Hid ((Ty.mk kt nt pt).cnt ≤ 41000) := (light_cnt (by first | exact HLT.out.symm | exact (HLT.out (by trivial)).symm)).1
  clear HTT B0 R5 q1 q2
  go_wp2_with fail
  go_loopg [32] (m + 1) (fun kx s32 wr => ∃ i : Nat, s32 = .int .i64 i ∧ m - i ≤ kx ∧ i ≤ m ∧ Hid (∀ p ∈ ps.take i, p.light = true) ∧ Hid (Below wl.heap.size wl wr))
  case atStart => exact ⟨0, rfl, by omega, by omega, by simp [Hid], Below.refl _ _⟩
  case round =>
    obtain ⟨i, rfl, hkx, hin, HLR, HBl⟩ := hrel
    have HB := Lib.hid (HB0.out.trans (HBl.out.mono HB0.out.size))
    by_cases hi : i < m
    · have hil : (i : Int) < (m : Int) := by omega
      obtain ⟨p, e⟩ := get_lt (l := ps) (i := i) (by rw [← HM.out]; exact hi)
      obtain ⟨g, o, An2, cn2, A2, c2, hA, hP, hg, hti, z0, z1, z2⟩ := (HTV.out.below HB.out).nth e
      have HTK : Hid (ps.take (i + 1) = ps.take i ++ [p]) := by unfold Hid; rw [List.take_add_one, e]; rfl
      obtain ⟨j, hj⟩ : ∃ j, j = i + 1 := ⟨_, rfl⟩
      rw [← hj] at HTK
      have b1 := bel1 wr (.cells (tarr p.kind An2 p.names.length cn2 A2 p.parts.length c2) 25)
      have RX := Lib.hid (RowB.new wr 25 (tarr p.kind An2 p.names.length cn2 A2 p.parts.length c2))
      have HTI := Lib.hid (hti.below b1)
      have HBl1 := Lib.hid (HBl.out.trans (b1.mono HBl.out.size))
      obtain ⟨wx, hwx⟩ : ∃ wx, wx = wr.alloc (.cells (tarr p.kind An2 p.names.length cn2 A2 p.parts.length c2) 25) := ⟨_, rfl⟩
      rw [← hwx] at RX HTI HBl1
      have C1 := Lib.hid (light_any wx p _ An2 cn2 A2 c2 HTI.out)
      obtain ⟨l, hl⟩ : ∃ l, l = p.light := ⟨_, rfl⟩
      rw [← hl] at C1
      have HTL : Hid (l = true → ∀ q ∈ ps.take j, q.light = true) := fun h q hq => by
        rw [HTK.out] at hq
        rcases List.mem_append.1 hq with hq | hq
        · exact HLR.out q hq
        · obtain rfl := List.mem_singleton.1 hq
          exact hl.symm.trans h
      subst hA
      obtain ⟨kp, np, pp⟩ := p
      simp only [tarr, tv, kind_mk, names_mk, parts_mk] at z0 z1 z2 C1 RX hwx
      clear e hti b1 hP HTK HTI hl
      have rx := RX.out.cell
      go_wp2_with fail
      rw [← hwx]
      refine C1.out.mono ?_
      rintro e w2 ⟨rfl, h2⟩
      have HBl2 := Lib.hid (HBl1.out.trans (h2.mono HBl1.out.size))
      clear h2 C1 z0 z1 z2 rx hwx RX HBl1 HB
      have HB2 := Lib.hid (HB0.out.trans (HBl2.out.mono HB0.out.size))
      cases l with
      | false =>
        skip
        have CA := Lib.hid (awake9_any _ (Tabs.step HT.out HB2.out) (HE.out.below HB2.out))
        go_wp2_with fail
        refine CA.out.mono ?_
        rintro e w9 ⟨rfl, hb9⟩
        have HB9 := Lib.hid (HB2.out.trans (hb9.mono HB2.out.size))
        clear hb9 CA
        go_wp2_with fail
        (first | go_ret | go_ret2)
        exact ⟨rfl, HB9.out⟩
      | true =>
        have HTL2 := Lib.hid (HTL.out (by first | rfl | trivial))
        clear HTL
        go_wp2_with fail
        go_roundg (m - j)
        case measure => omega
        case rel => exact ⟨j, by rw [hj]; go_num, by omega, by omega, HTL2.out, HBl2.out⟩
    · have hil : ¬ (i : Int) < (m : Int) := by omega
      obtain rfl : m = i := by omega
      have hL := HLR.out
      rw [List.take_of_length_le (by rw [← HM.out]; exact Nat.le_refl _)] at hL
      have HL := Lib.hid hL
      clear HLR hL hi
      have C0 := record_any wr ns ps P A0 c0 A1 c1 (HNV.out.below HB.out) (HTV.out.below HB.out) (by rw [← HN.out]; omega)
      rw [← HN.out, ← HM.out] at C0
      have CREC := Lib.hid C0
      clear C0
      go_wp2_with fail
      refine CREC.out.mono ?_
      rintro e w2 ⟨t1, Bn1, dn1, B1, d1, z, rfl, hti, h2, hz⟩
      have b3 := bel1 w2 (.cells (tarr t1.kind Bn1 t1.names.length dn1 B1 t1.parts.length d1) 25)
      have R9 := Lib.hid (RowB.new w2 25 (tarr t1.kind Bn1 t1.names.length dn1 B1 t1.parts.length d1))
      have HT1 := Lib.hid (hti.below b3)
      obtain ⟨w3, hw3⟩ : ∃ w3, w3 = w2.alloc (.cells (tarr t1.kind Bn1 t1.names.length dn1 B1 t1.parts.length d1) 25) := ⟨_, rfl⟩
      rw [← hw3] at b3 R9 HT1
      have HBl3 := Lib.hid (HBl.out.trans ((h2.trans (b3.mono h2.size)).mono HBl.out.size))
      have HB3 := Lib.hid (HB0.out.trans (HBl3.out.mono HB0.out.size))
      have HZ1 := Lib.hid hz
      have C0 := rrec_any w3 ns ps P A0 c0 A1 c1 (HNV.out.below HB3.out) (HTV.out.below HB3.out) (by rw [← HN.out]; omega)
      rw [← HN.out, ← HM.out] at C0
      have CREF := Lib.hid C0
      clear hti h2 b3 CREC hz C0 HBl HB
      obtain ⟨k1, hk1⟩ : ∃ k, k = t1.kind := ⟨_, rfl⟩
      obtain ⟨l1, hl1⟩ : ∃ l, l = t1.names.length := ⟨_, rfl⟩
      obtain ⟨m1, hm1⟩ : ∃ l, l = t1.parts.length := ⟨_, rfl⟩
      have HK1 := Lib.hid (And.intro hk1 (And.intro hl1 hm1))
      have e3 := hw3
      simp only [tarr, tv, ← hk1, ← hl1, ← hm1] at e3 R9 ⊢
      clear hw3 hk1 hl1 hm1
      go_wp2_with fail
      rw [← e3]
      refine CREF.out.mono ?_
      rintro e w4 ⟨t2, Bn2, dn2, B2, d2, y, rfl, hti, h4, hy⟩
      obtain ⟨rfl, rfl, hz1, hz2, hz3⟩ := recs_one HZ1.out hy
      have b5 := bel1 w4 (.cells (tarr t1.kind Bn2 t1.names.length dn2 B2 t1.parts.length d2) 25)
      have R11 := Lib.hid (RowB.new w4 25 (tarr t1.kind Bn2 t1.names.length dn2 B2 t1.parts.length d2))
      have HT2 := Lib.hid (hti.below b5)
      obtain ⟨w5, hw5⟩ : ∃ w5, w5 = w4.alloc (.cells (tarr t1.kind Bn2 t1.names.length dn2 B2 t1.parts.length d2) 25) := ⟨_, rfl⟩
      rw [← hw5] at b5 R11 HT2
      have h35 := h4.trans (b5.mono h4.size)
      have HT1' := Lib.hid (HT1.out.below h35)
      have R9' := Lib.hid (R9.out.below h35 R9.out.lt)
      have HBl5 := Lib.hid (HBl3.out.trans (h35.mono HBl3.out.size))
      have HB5 := Lib.hid (HB0.out.trans (HBl5.out.mono HB0.out.size))
      have R5' := Lib.hid (R5l.out.below HBl5.out R5l.out.lt)
      have HTT5 := Lib.hid (HTT0.out.below HBl5.out)
      have CSELF : Hid (∀ w', Below w5.heap.size w5 w' → Calls Tryz.prog 21 #[tv t1 Bn1 dn1 B1 d1, tv t1 Bn2 dn2 B2 d2] w' fun e w2 => e = .returned (.bool true) ∧ Below w'.heap.size w' w2) := fun w' hb =>
        rsame_self t1 (by rw [← HN.out] at hz1; omega) (by rw [← HN.out] at hz2; omega) (fun p hp => by have := (light_cnt (HL.out p (hz3 p hp))).1; omega) w' _ _ Bn1 dn1 B1 d1 Bn2 dn2 B2 d2 (HT1'.out.below hb) (HT2.out.below hb)
      have C0 := func_any w5 (.mk kt nt pt) ps _ P An cn A c A1 c1 HTT5.out (HTV.out.below HB5.out) (by rw [← HM.out]; omega)
      rw [← HM.out] at C0
      have CFN := Lib.hid C0
      have e5 := hw5
      have hk1 := HK1.out.1
      have hl1 := HK1.out.2.1
      have hm1 := HK1.out.2.2
      simp only [tarr, tv, kind_mk, names_mk, parts_mk, ← hk1, ← hl1, ← hm1] at e5 R11 CSELF CFN ⊢
      have r5 := R5'.out.cell
      rw [e5] at r5
      clear hti h4 b5 CREF hy hw5 h35 C0 hk1 hl1 hm1 HT1 R9 HBl3 HB3 e3 HZ1 HK1 hz1 hz2 hz3 HT1' HT2
      go_wp2_with fail
      rw [← e5]
      refine CFN.out.mono ?_
      rintro e w6 ⟨h6, An3, cn3, A3, c3, rfl, ht3⟩
      have hfo : fnOf ps (.mk kt nt pt) = .mk 4 [] (ps ++ [.mk kt nt pt]) := rfl
      rw [hfo] at ht3 ⊢
      have hfl : (ps ++ [Ty.mk kt nt pt]).length = m + 1 := by rw [List.length_append, ← HM.out]; rfl
      obtain ⟨fl, hfe⟩ : ∃ fl, fl = ps ++ [Ty.mk kt nt pt] := ⟨_, rfl⟩
      rw [← hfe] at ht3 hfl ⊢
      have HFE := Lib.hid hfe
      try simp only [tv, kind_mk, names_mk, parts_mk, List.length_nil]
      rw [hfl]
      have b7 := bel1 w6 (.cells #[.int .i64 4, .slice An3 0 cn3, .slice A3 (m + 1) c3] 25)
      have R13 := Lib.hid (RowB.new w6 25 #[.int .i64 4, .slice An3 0 cn3, .slice A3 (m + 1) c3])
      obtain ⟨w7, hw7⟩ : ∃ w7, w7 = w6.alloc (.cells #[.int .i64 4, .slice An3 0 cn3, .slice A3 (m + 1) c3] 25) := ⟨_, rfl⟩
      rw [← hw7] at b7 R13
      have h57 := h6.trans (b7.mono h6.size)
      have HX7 := Lib.hid h57
      have HBl7 := Lib.hid (HBl5.out.trans (h57.mono HBl5.out.size))
      have HB7 := Lib.hid (HB0.out.trans (HBl7.out.mono HB0.out.size))
      have HTF := Lib.hid (TI_iff.1 (ht3.below b7)).2
      simp only [parts_mk] at HTF
      have hfm : fl[m]? = some (.mk kt nt pt) := by rw [hfe, List.getElem?_append_right (by rw [← HM.out]; exact Nat.le_refl _), ← HM.out]; simp
      obtain ⟨gf, of_, An4, cn4, A4, c4, hA3, _, hgf, hti4, y0, y1, y2⟩ := HTF.out.nth hfm
      simp only [kind_mk, names_mk, parts_mk] at y0 y1 y2
      have HTM := Lib.hid hti4
      have CL2 : Hid (∀ w', Below w7.heap.size w7 w' → Calls Tryz.prog 21 #[.agg #[.int .i64 kt, .slice An4 nt.length cn4, .slice A4 pt.length c4], .agg #[.int .i64 kt, .slice An nt.length cn, .slice A pt.length c]] w' fun e w2 => e = .returned (.bool true) ∧ Below w'.heap.size w' w2) := fun w' hb => by
        have := rsame_any (.mk kt nt pt) (by have := HCT.out; omega) (.mk kt nt pt) (by have := HCT.out; omega) w' _ _ An4 cn4 A4 c4 An cn A c (HTM.out.below hb) ((HTT5.out.below HX7.out).below hb)
        rw [same_refl] at this
        exact this
      have HFL : Hid (∀ i, i < m → fl[i]? = ps[i]?) := fun i hi => by rw [HFE.out, List.getElem?_append_left (by rw [← HM.out]; exact hi)]
      subst hA3
      have e7 := hw7
      have HR9 := Lib.hid (R9'.out.below h57 R9'.out.lt)
      have HR11 := Lib.hid (R11.out.below h57 R11.out.lt)
      have HR5 := Lib.hid (R5'.out.below h57 R5'.out.lt)
      clear h6 ht3 CFN b7 h57 hfo hfe hw7 hfm hti4 r5 R9' R11 R5' HTT5 e5 HBl5 HB5 HTT0
      go_upto_region 12 with fail
      rw [← e7]
      have D7 : Below w7.heap.size w7 w7.drew := Below.drew (Below.refl _ _)
      have l9 := HR9.out.lt
      have l11 := HR11.out.lt
      have l13 := R13.out.lt
      have l5 := HR5.out.lt
      have c9 := HR9.out.cell
      have c11 := HR11.out.cell
      have c13 := R13.out.cell
      have c5 := HR5.out.cell
      have CS := Lib.hid (CSELF.out w7.drew (HX7.out.trans (D7.mono HX7.out.size)))
      clear e7 CSELF
      have hmm : (m : Int) < (m : Int) + 1 := by omega
      have hwr : IntKind.i64.wrap ((m : Int) + 1) = (m : Int) + 1 := by rw [IntKind.wrap_i64]; omega
      refine wp_region_G (S := SG (fun w' => Below w7.heap.size w7 w') 99 (fun _ => True) 99 (fun _ => True)) (by kernel_rfl) ⟨D7, fun _ => trivial, fun _ => trivial⟩ (fun hS => ?_)
      refine wpG_take0 (i := 0) (v := ?v1) rfl (by kernel_rfl) (by kernel_rfl) (by kernel_rfl) (by decide) (by decide) (fun _ _ _ h => h) hS (Or.inl ⟨by rfl, ?hy1⟩) ?rest1
      case hy1 => (intro w' hw; go_simp; try with_reducible rfl)
      replace hS := SG.set (i := 0) (by decide) (by decide) hS
      try simp only [Act.put, List.setIfInBounds_toArray, List.set_cons_zero, List.set_cons_succ]
      refine wpG_take0 (i := 1) (v := ?v2) rfl (by kernel_rfl) (by kernel_rfl) (by kernel_rfl) (by decide) (by decide) (fun _ _ _ h => h) hS (Or.inl ⟨by rfl, ?hy2⟩) ?rest2
      case hy2 => (intro w' hw; go_simp; try with_reducible rfl)
      replace hS := SG.set (i := 1) (by decide) (by decide) hS
      try simp only [Act.put, List.setIfInBounds_toArray, List.set_cons_zero, List.set_cons_succ]
      refine wpG_take0 (i := 2) (v := ?v3) rfl (by kernel_rfl) (by kernel_rfl) (by kernel_rfl) (by decide) (by decide) (fun _ _ _ h => h) hS (Or.inl ⟨by rfl, ?hy3⟩) ?rest3
      case hy3 => (intro w' hw; go_simp; try with_reducible rfl)
      replace hS := SG.set (i := 2) (by decide) (by decide) hS
      try simp only [Act.put, List.setIfInBounds_toArray, List.set_cons_zero, List.set_cons_succ]
      refine wpG_take0 (i := 3) (v := ?v4) rfl (by kernel_rfl) (by kernel_rfl) (by kernel_rfl) (by decide) (by decide) (fun _ _ _ h => h) hS (Or.inl ⟨by rfl, ?hy4⟩) ?rest4
      case hy4 => (intro w' hw; go_simp; try with_reducible rfl)
      replace hS := SG.set (i := 3) (by decide) (by decide) hS
      try simp only [Act.put, List.setIfInBounds_toArray, List.set_cons_zero, List.set_cons_succ]
      refine wpG_take0 (i := 4) (v := ?v5) rfl (by kernel_rfl) (by kernel_rfl) (by kernel_rfl) (by decide) (by decide) (fun _ _ _ h => h) hS (Or.inl ⟨by rfl, ?hy5⟩) ?rest5
      case hy5 => (intro w' hw; have u9 := fun j => (hw.cell (p := ⟨w2.heap.size, j, none⟩) l9).trans (c9 j); go_simp; try with_reducible rfl)
      replace hS := SG.set (i := 4) (by decide) (by decide) hS
      try simp only [Act.put, List.setIfInBounds_toArray, List.set_cons_zero, List.set_cons_succ]
      refine wpG_take0 (i := 5) (v := ?v6) rfl (by kernel_rfl) (by kernel_rfl) (by kernel_rfl) (by decide) (by decide) (fun _ _ _ h => h) hS (Or.inl ⟨by rfl, ?hy6⟩) ?rest6
      case hy6 => (intro w' hw; have u11 := fun j => (hw.cell (p := ⟨w4.heap.size, j, none⟩) l11).trans (c11 j); go_simp; try with_reducible rfl)
      replace hS := SG.set (i := 5) (by decide) (by decide) hS
      try simp only [Act.put, List.setIfInBounds_toArray, List.set_cons_zero, List.set_cons_succ]
      refine wpG_ready (rs := [6]) (by kernel_rfl) (by simp) ?_
      refine RG.consG rfl rfl (fun K hK => ?_) RG.nil
      go_simp
      refine CS.out.mono ?_
      rintro e x1 ⟨rfl, hx1⟩
      go_wp2_with fail
      have HG1 := Lib.hid (D7.trans (hx1.mono D7.size))
      clear hx1
      refine hK.out _ _ ⟨HG1.out, fun _ => trivial, fun _ => trivial⟩ (fun hS => ?_)
      clear hK K
      try simp only [Act.put, List.setIfInBounds_toArray, List.set_cons_zero, List.set_cons_succ]
      refine wpG_take0 (i := 7) (v := ?v7) rfl (by kernel_rfl) (by kernel_rfl) (by kernel_rfl) (by decide) (by decide) (fun _ _ _ h => h) hS (Or.inl ⟨by rfl, ?hy7⟩) ?rest7
      case hy7 => (intro w' hw; go_simp; try with_reducible rfl)
      replace hS := SG.set (i := 7) (by decide) (by decide) hS
      try simp only [Act.put, List.setIfInBounds_toArray, List.set_cons_zero, List.set_cons_succ]
      refine wpG_take0 (i := 8) (v := ?v8) rfl (by kernel_rfl) (by kernel_rfl) (by kernel_rfl) (by decide) (by decide) (fun _ _ _ h => h) hS (Or.inl ⟨by rfl, ?hy8⟩) ?rest8
      case hy8 => (intro w' hw; go_simp; try with_reducible rfl)
      replace hS := SG.set (i := 8) (by decide) (by decide) hS
      try simp only [Act.put, List.setIfInBounds_toArray, List.set_cons_zero, List.set_cons_succ]
      refine wpG_take0 (i := 9) (v := ?v9) rfl (by kernel_rfl) (by kernel_rfl) (by kernel_rfl) (by decide) (by decide) (fun _ _ _ h => h) hS (Or.inl ⟨by rfl, ?hy9⟩) ?rest9
      case hy9 => (intro w' hw; go_simp; try with_reducible rfl)
      replace hS := SG.set (i := 9) (by decide) (by decide) hS
      try simp only [Act.put, List.setIfInBounds_toArray, List.set_cons_zero, List.set_cons_succ]
      refine wpG_take0 (i := 10) (v := ?v10) rfl (by kernel_rfl) (by kernel_rfl) (by kernel_rfl) (by decide) (by decide) (fun _ _ _ h => h) hS (Or.inl ⟨by rfl, ?hy10⟩) ?rest10
      case hy10 => (intro w' hw; go_simp; try with_reducible rfl)
      replace hS := SG.set (i := 10) (by decide) (by decide) hS
      try simp only [Act.put, List.setIfInBounds_toArray, List.set_cons_zero, List.set_cons_succ]
      refine wpG_take0 (i := 11) (v := ?v11) rfl (by kernel_rfl) (by kernel_rfl) (by kernel_rfl) (by decide) (by decide) (fun _ _ _ h => h) hS (Or.inl ⟨by rfl, ?hy11⟩) ?rest11
      case hy11 => (intro w' hw; have u13 := fun j => (hw.cell (p := ⟨w6.heap.size, j, none⟩) l13).trans (c13 j); go_simp; try with_reducible rfl)
      replace hS := SG.set (i := 11) (by decide) (by decide) hS
      try simp only [Act.put, List.setIfInBounds_toArray, List.set_cons_zero, List.set_cons_succ]
      refine wpG_take0 (i := 12) (v := ?v12) rfl (by kernel_rfl) (by kernel_rfl) (by kernel_rfl) (by decide) (by decide) (fun _ _ _ h => h) hS (Or.inl ⟨by rfl, ?hy12⟩) ?rest12
      case hy12 => (intro w' hw; go_simp; try with_reducible rfl)
      replace hS := SG.set (i := 12) (by decide) (by decide) hS
      try simp only [Act.put, List.setIfInBounds_toArray, List.set_cons_zero, List.set_cons_succ]
      refine wpG_take0 (i := 13) (v := ?v13) rfl (by kernel_rfl) (by kernel_rfl) (by kernel_rfl) (by decide) (by decide) (fun _ _ _ h => h) hS (Or.inl ⟨by rfl, ?hy13⟩) ?rest13
      case hy13 => (intro w' hw; go_simp; try with_reducible rfl)
      replace hS := SG.set (i := 13) (by decide) (by decide) hS
      try simp only [Act.put, List.setIfInBounds_toArray, List.set_cons_zero, List.set_cons_succ]
      refine wpG_take0 (i := 14) (v := ?v14) rfl (by kernel_rfl) (by kernel_rfl) (by kernel_rfl) (by decide) (by decide) (fun _ _ _ h => h) hS (Or.inl ⟨by rfl, ?hy14⟩) ?rest14
      case hy14 => (intro w' hw; go_simp; try with_reducible rfl)
      replace hS := SG.set (i := 14) (by decide) (by decide) hS
      try simp only [Act.put, List.setIfInBounds_toArray, List.set_cons_zero, List.set_cons_succ]
      refine wpG_take0 (i := 15) (v := ?v15) rfl (by kernel_rfl) (by kernel_rfl) (by kernel_rfl) (by decide) (by decide) (fun _ _ _ h => h) hS (Or.inl ⟨by rfl, ?hy15⟩) ?rest15
      case hy15 => (intro w' hw; go_simp; try with_reducible rfl)
      replace hS := SG.set (i := 15) (by decide) (by decide) hS
      try simp only [Act.put, List.setIfInBounds_toArray, List.set_cons_zero, List.set_cons_succ]
      refine wpG_take0 (i := 16) (v := ?v16) rfl (by kernel_rfl) (by kernel_rfl) (by kernel_rfl) (by decide) (by decide) (fun _ _ _ h => h) hS (Or.inl ⟨by rfl, ?hy16⟩) ?rest16
      case hy16 => (intro w' hw; have u13 := fun j => (hw.cell (p := ⟨w6.heap.size, j, none⟩) l13).trans (c13 j); go_simp; try with_reducible rfl)
      replace hS := SG.set (i := 16) (by decide) (by decide) hS
      try simp only [Act.put, List.setIfInBounds_toArray, List.set_cons_zero, List.set_cons_succ]
      refine wpG_take0 (i := 17) (v := ?v17) rfl (by kernel_rfl) (by kernel_rfl) (by kernel_rfl) (by decide) (by decide) (fun _ _ _ h => h) hS (Or.inl ⟨by rfl, ?hy17⟩) ?rest17
      case hy17 => (intro w' hw; go_simp; try with_reducible rfl)
      replace hS := SG.set (i := 17) (by decide) (by decide) hS
      try simp only [Act.put, List.setIfInBounds_toArray, List.set_cons_zero, List.set_cons_succ]
      refine wpG_take0 (i := 18) (v := ?v18) rfl (by kernel_rfl) (by kernel_rfl) (by kernel_rfl) (by decide) (by decide) (fun _ _ _ h => h) hS (Or.inl ⟨by rfl, ?hy18⟩) ?rest18
      case hy18 => (intro w' hw; go_simp; try with_reducible rfl)
      replace hS := SG.set (i := 18) (by decide) (by decide) hS
      try simp only [Act.put, List.setIfInBounds_toArray, List.set_cons_zero, List.set_cons_succ]
      refine wpG_take0 (i := 19) (v := ?v19) rfl (by kernel_rfl) (by kernel_rfl) (by kernel_rfl) (by decide) (by decide) (fun _ _ _ h => h) hS (Or.inl ⟨by rfl, ?hy19⟩) ?rest19
      case hy19 => (intro w' hw; go_simp; try with_reducible rfl)
      replace hS := SG.set (i := 19) (by decide) (by decide) hS
      try simp only [Act.put, List.setIfInBounds_toArray, List.set_cons_zero, List.set_cons_succ]
      refine wpG_take0 (i := 20) (v := ?v20) rfl (by kernel_rfl) (by kernel_rfl) (by kernel_rfl) (by decide) (by decide) (fun _ _ _ h => h) hS (Or.inl ⟨by rfl, ?hy20⟩) ?rest20
      case hy20 => (intro w' hw; go_simp; try with_reducible rfl)
      replace hS := SG.set (i := 20) (by decide) (by decide) hS
      try simp only [Act.put, List.setIfInBounds_toArray, List.set_cons_zero, List.set_cons_succ]
      refine wpG_take0 (i := 21) (v := ?v21) rfl (by kernel_rfl) (by kernel_rfl) (by kernel_rfl) (by decide) (by decide) (fun _ _ _ h => h) hS (Or.inl ⟨by rfl, ?hy21⟩) ?rest21
      case hy21 => (intro w' hw; go_simp; try with_reducible rfl)
      replace hS := SG.set (i := 21) (by decide) (by decide) hS
      try simp only [Act.put, List.setIfInBounds_toArray, List.set_cons_zero, List.set_cons_succ]
      refine wpG_take0 (i := 22) (v := ?v22) rfl (by kernel_rfl) (by kernel_rfl) (by kernel_rfl) (by decide) (by decide) (fun _ _ _ h => h) hS (Or.inl ⟨by rfl, ?hy22⟩) ?rest22
      case hy22 => (intro w' hw; have u13 := fun j => (hw.cell (p := ⟨w6.heap.size, j, none⟩) l13).trans (c13 j); go_simp; try with_reducible rfl)
      replace hS := SG.set (i := 22) (by decide) (by decide) hS
      try simp only [Act.put, List.setIfInBounds_toArray, List.set_cons_zero, List.set_cons_succ]
      refine wpG_take0 (i := 23) (v := ?v23) rfl (by kernel_rfl) (by kernel_rfl) (by kernel_rfl) (by decide) (by decide) (fun _ _ _ h => h) hS (Or.inl ⟨by rfl, ?hy23⟩) ?rest23
      case hy23 => (intro w' hw; go_simp; try with_reducible rfl)
      replace hS := SG.set (i := 23) (by decide) (by decide) hS
      try simp only [Act.put, List.setIfInBounds_toArray, List.set_cons_zero, List.set_cons_succ]
      refine wpG_take0 (i := 24) (v := ?v24) rfl (by kernel_rfl) (by kernel_rfl) (by kernel_rfl) (by decide) (by decide) (fun _ _ _ h => h) hS (Or.inl ⟨by rfl, ?hy24⟩) ?rest24
      case hy24 => (intro w' hw; go_simp; try with_reducible rfl)
      replace hS := SG.set (i := 24) (by decide) (by decide) hS
      try simp only [Act.put, List.setIfInBounds_toArray, List.set_cons_zero, List.set_cons_succ]
      refine wpG_take0 (i := 25) (v := ?v25) rfl (by kernel_rfl) (by kernel_rfl) (by kernel_rfl) (by decide) (by decide) (fun _ _ _ h => h) hS (Or.inl ⟨by rfl, ?hy25⟩) ?rest25
      case hy25 => (intro w' hw; go_simp; try with_reducible rfl)
      replace hS := SG.set (i := 25) (by decide) (by decide) hS
      try simp only [Act.put, List.setIfInBounds_toArray, List.set_cons_zero, List.set_cons_succ]
      refine wpG_take0 (i := 26) (v := .int .i64 ((m : Int) + 1)) rfl (by kernel_rfl) (by kernel_rfl) (by kernel_rfl) (by decide) (by decide) (fun _ _ _ h => h) hS (Or.inl ⟨by rfl, ?hy26⟩) ?rest26
      case hy26 => (intro w' hw; go_simp; try with_reducible rfl)
      replace hS := SG.set (i := 26) (by decide) (by decide) hS
      try simp only [Act.put, List.setIfInBounds_toArray, List.set_cons_zero, List.set_cons_succ]
      refine wpG_take0 (i := 27) (v := .bool false) rfl (by kernel_rfl) (by kernel_rfl) (by kernel_rfl) (by decide) (by decide) (fun _ _ _ h => h) hS (Or.inl ⟨by rfl, ?hy27⟩) ?rest27
      case hy27 => (intro w' hw; go_simp; try with_reducible rfl)
      replace hS := SG.set (i := 27) (by decide) (by decide) hS
      try simp only [Act.put, List.setIfInBounds_toArray, List.set_cons_zero, List.set_cons_succ]
      refine wpG_take0 (i := 28) (v := .bool false) rfl (by kernel_rfl) (by kernel_rfl) (by kernel_rfl) (by decide) (by decide) (fun _ _ _ h => h) hS (Or.inl ⟨by rfl, ?hy28⟩) ?rest28
      case hy28 => (intro w' hw; go_simp; try with_reducible rfl)
      replace hS := SG.set (i := 28) (by decide) (by decide) hS
      try simp only [Act.put, List.setIfInBounds_toArray, List.set_cons_zero, List.set_cons_succ]
      refine wpG_take0 (i := 29) (v := ?v29) rfl (by kernel_rfl) (by kernel_rfl) (by kernel_rfl) (by decide) (by decide) (fun _ _ _ h => h) hS (Or.inl ⟨by rfl, ?hy29⟩) ?rest29
      case hy29 => (intro w' hw; go_simp; try with_reducible rfl)
      replace hS := SG.set (i := 29) (by decide) (by decide) hS
      try simp only [Act.put, List.setIfInBounds_toArray, List.set_cons_zero, List.set_cons_succ]
      refine wpG_take0 (i := 30) (v := ?v30) rfl (by kernel_rfl) (by kernel_rfl) (by kernel_rfl) (by decide) (by decide) (fun _ _ _ h => h) hS (Or.inl ⟨by rfl, ?hy30⟩) ?rest30
      case hy30 => (intro w' hw; go_simp; try with_reducible rfl)
      replace hS := SG.set (i := 30) (by decide) (by decide) hS
      try simp only [Act.put, List.setIfInBounds_toArray, List.set_cons_zero, List.set_cons_succ]
      refine wpG_take0 (i := 31) (v := ?v31) rfl (by kernel_rfl) (by kernel_rfl) (by kernel_rfl) (by decide) (by decide) (fun _ _ _ h => h) hS (Or.inl ⟨by rfl, ?hy31⟩) ?rest31
      case hy31 => (intro w' hw; have u13 := fun j => (hw.cell (p := ⟨w6.heap.size, j, none⟩) l13).trans (c13 j); go_simp; try with_reducible rfl)
      replace hS := SG.set (i := 31) (by decide) (by decide) hS
      try simp only [Act.put, List.setIfInBounds_toArray, List.set_cons_zero, List.set_cons_succ]
      refine wpG_take0 (i := 32) (v := ?v32) rfl (by kernel_rfl) (by kernel_rfl) (by kernel_rfl) (by decide) (by decide) (fun _ _ _ h => h) hS (Or.inl ⟨by rfl, ?hy32⟩) ?rest32
      case hy32 => (intro w' hw; go_simp; try with_reducible rfl)
      replace hS := SG.set (i := 32) (by decide) (by decide) hS
      try simp only [Act.put, List.setIfInBounds_toArray, List.set_cons_zero, List.set_cons_succ]
      refine wpG_take0 (i := 33) (v := ?v33) rfl (by kernel_rfl) (by kernel_rfl) (by kernel_rfl) (by decide) (by decide) (fun _ _ _ h => h) hS (Or.inl ⟨by rfl, ?hy33⟩) ?rest33
      case hy33 => (intro w' hw; go_simp; try with_reducible rfl)
      replace hS := SG.set (i := 33) (by decide) (by decide) hS
      try simp only [Act.put, List.setIfInBounds_toArray, List.set_cons_zero, List.set_cons_succ]
      refine wpG_take0 (i := 34) (v := ?v34) rfl (by kernel_rfl) (by kernel_rfl) (by kernel_rfl) (by decide) (by decide) (fun _ _ _ h => h) hS (Or.inl ⟨by rfl, ?hy34⟩) ?rest34
      case hy34 => (intro w' hw; go_simp; try with_reducible rfl)
      replace hS := SG.set (i := 34) (by decide) (by decide) hS
      try simp only [Act.put, List.setIfInBounds_toArray, List.set_cons_zero, List.set_cons_succ]
      refine wpG_take0 (i := 35) (v := ?v35) rfl (by kernel_rfl) (by kernel_rfl) (by kernel_rfl) (by decide) (by decide) (fun _ _ _ h => h) hS (Or.inl ⟨by rfl, ?hy35⟩) ?rest35
      case hy35 => (intro w' hw; have y0' := (hw.cell (p := ⟨gf, of_ + m * 3, none⟩) hgf).trans y0; have y1' := (hw.cell (p := ⟨gf, of_ + m * 3 + 1, none⟩) hgf).trans y1; have y2' := (hw.cell (p := ⟨gf, of_ + m * 3 + 2, none⟩) hgf).trans y2; go_simp; try with_reducible rfl)
      replace hS := SG.set (i := 35) (by decide) (by decide) hS
      try simp only [Act.put, List.setIfInBounds_toArray, List.set_cons_zero, List.set_cons_succ]
      refine wpG_take0 (i := 36) (v := ?v36) rfl (by kernel_rfl) (by kernel_rfl) (by kernel_rfl) (by decide) (by decide) (fun _ _ _ h => h) hS (Or.inl ⟨by rfl, ?hy36⟩) ?rest36
      case hy36 => (intro w' hw; have u5 := fun j => (hw.cell (p := ⟨w.heap.size, j, none⟩) l5).trans (c5 j); go_simp; try with_reducible rfl)
      replace hS := SG.set (i := 36) (by decide) (by decide) hS
      try simp only [Act.put, List.setIfInBounds_toArray, List.set_cons_zero, List.set_cons_succ]
      refine wpG_ready (rs := [37]) (by kernel_rfl) (by simp) ?_
      refine RG.consG rfl rfl (fun K hK => ?_) RG.nil
      go_simp
      refine (CL2.out _ HG1.out).mono ?_
      rintro e x2 ⟨rfl, hx2⟩
      go_wp2_with fail
      have HG2 := Lib.hid (HG1.out.trans (hx2.mono HG1.out.size))
      clear hx2
      refine hK.out _ _ ⟨HG2.out, fun _ => trivial, fun _ => trivial⟩ (fun hS => ?_)
      clear hK K
      try simp only [Act.put, List.setIfInBounds_toArray, List.set_cons_zero, List.set_cons_succ]
      refine wpG_take0 (i := 38) (v := ?v37) rfl (by kernel_rfl) (by kernel_rfl) (by kernel_rfl) (by decide) (by decide) (fun _ _ _ h => h) hS (Or.inl ⟨by rfl, ?hy37⟩) ?rest37
      case hy37 => (intro w' hw; go_simp; try with_reducible rfl)
      replace hS := SG.set (i := 38) (by decide) (by decide) hS
      try simp only [Act.put, List.setIfInBounds_toArray, List.set_cons_zero, List.set_cons_succ]
      refine wpG_take0 (i := 39) (v := ?v38) rfl (by kernel_rfl) (by kernel_rfl) (by kernel_rfl) (by decide) (by decide) (fun _ _ _ h => h) hS (Or.inl ⟨by rfl, ?hy38⟩) ?rest38
      case hy38 => (intro w' hw; go_simp; try with_reducible rfl)
      replace hS := SG.set (i := 39) (by decide) (by decide) hS
      try simp only [Act.put, List.setIfInBounds_toArray, List.set_cons_zero, List.set_cons_succ]
      refine wpG_done (by kernel_rfl) ?_ _
      have HB8 := Lib.hid (HB7.out.trans (HG2.out.mono HB7.out.size))
      have HTF8 := Lib.hid (HTF.out.below HG2.out)
      have R138 := Lib.hid (R13.out.below HG2.out R13.out.lt)
      clear hS CS CL2 HG1 HG2 HTF R13 c9 c11 c13 c5 l9 l11 l13 l5 D7 y0 y1 y2 HTM hgf HR9 HR11 HR5 HX7 HBl7 HB7
      go_wp2_with fail
      go_loopg [98] (m + 1) (fun kx s98 wq => ∃ i : Nat, s98 = .int .i64 i ∧ m - i ≤ kx ∧ i ≤ m ∧ Hid (Below x2.heap.size x2 wq))
      case atStart => exact ⟨0, rfl, by omega, by omega, Below.refl _ _⟩
      case round =>
        obtain ⟨i, rfl, hkx2, hin2, HBq⟩ := hrel
        have HBw := Lib.hid (HB8.out.trans (HBq.out.mono HB8.out.size))
        by_cases hi2 : i < m
        · have hil2 : (i : Int) < (m : Int) := by omega
          have hil3 : (i : Int) < (m : Int) + 1 := by omega
          obtain ⟨p, e⟩ := get_lt (l := ps) (i := i) (by rw [← HM.out]; exact hi2)
          have e' : fl[i]? = some p := by rw [HFL.out i hi2]; exact e
          obtain ⟨g1, o1, Cn, fn, C, f, hA1, _, hg1, hti, v0, v1, v2⟩ := (HTV.out.below HBw.out).nth e
          obtain ⟨g2, o2, Dn, en, D, f2, hA2, _, hg2, hti2, x0, x1, x2'⟩ := (HTF8.out.below HBq.out).nth e'
          injection hA2 with hA2
          injection hA2 with hA2 hA3
          subst hA2 hA3 hA1
          have HCP : Hid (p.cnt ≤ 1000001) := by have := (light_cnt (HL.out p (List.mem_of_getElem? e))).1; unfold Hid; omega
          have b6 := bel1 wr (.cells (tarr p.kind Cn p.names.length fn C p.parts.length f) 25)
          have R15 := Lib.hid (RowB.new wr 25 (tarr p.kind Cn p.names.length fn C p.parts.length f))
          obtain ⟨wy, hwy⟩ : ∃ wy, wy = wr.alloc (.cells (tarr p.kind Cn p.names.length fn C p.parts.length f) 25) := ⟨_, rfl⟩
          rw [← hwy] at b6 R15
          have hlt2 : gf < wy.heap.size := Nat.lt_of_lt_of_le hg2 b6.size
          have x0' := (b6.cell (p := ⟨gf, of_ + i * 3, none⟩) hg2).trans x0
          have x1' := (b6.cell (p := ⟨gf, of_ + i * 3 + 1, none⟩) hg2).trans x1
          have x2'' := (b6.cell (p := ⟨gf, of_ + i * 3 + 2, none⟩) hg2).trans x2'
          have HBqy := Lib.hid (HBq.out.trans (b6.mono HBq.out.size))
          have r13 := (R138.out.below HBqy.out R138.out.lt)
          have c13 := r13.cell
          have l13 := r13.lt
          have c15 := R15.out.cell
          have l15 := R15.out.lt
          have D8 : Below wy.heap.size wy wy.drew := Below.drew (Below.refl _ _)
          have CP := rsame_any p HCP.out p HCP.out wy.drew _ _ Dn en D f2 Cn fn C f ((hti2.below b6).below D8) ((hti.below b6).below D8)
          rw [same_refl] at CP
          have CPH := Lib.hid CP
          obtain ⟨kp, np, pp⟩ := p
          simp only [tarr, tv, kind_mk, names_mk, parts_mk] at v0 v1 v2 x0' x1' x2'' CPH hwy c15
          obtain ⟨j, hj⟩ : ∃ j, j = i + 1 := ⟨_, rfl⟩
          have e8 := hwy
          clear CP hti hti2 e e' b6 x0 x1 x2' hwy hg2 r13 R15 HCP
          go_upto_region 17 with fail
          rw [← e8]
          clear e8
          refine wp_region_G (S := SG (fun w' => Below wy.heap.size wy w') 99 (fun _ => True) 99 (fun _ => True)) (by kernel_rfl) ⟨D8, fun _ => trivial, fun _ => trivial⟩ (fun hS => ?_)
          refine wpG_take0 (i := 0) (v := ?v39) rfl (by kernel_rfl) (by kernel_rfl) (by kernel_rfl) (by decide) (by decide) (fun _ _ _ h => h) hS (Or.inl ⟨by rfl, ?hy39⟩) ?rest39
          case hy39 => (intro w' hw; go_simp; try with_reducible rfl)
          replace hS := SG.set (i := 0) (by decide) (by decide) hS
          try simp only [Act.put, List.setIfInBounds_toArray, List.set_cons_zero, List.set_cons_succ]
          refine wpG_take0 (i := 1) (v := ?v40) rfl (by kernel_rfl) (by kernel_rfl) (by kernel_rfl) (by decide) (by decide) (fun _ _ _ h => h) hS (Or.inl ⟨by rfl, ?hy40⟩) ?rest40
          case hy40 => (intro w' hw; have u13 := fun j => (hw.cell (p := ⟨w6.heap.size, j, none⟩) l13).trans (c13 j); go_simp; try with_reducible rfl)
          replace hS := SG.set (i := 1) (by decide) (by decide) hS
          try simp only [Act.put, List.setIfInBounds_toArray, List.set_cons_zero, List.set_cons_succ]
          refine wpG_take0 (i := 2) (v := ?v41) rfl (by kernel_rfl) (by kernel_rfl) (by kernel_rfl) (by decide) (by decide) (fun _ _ _ h => h) hS (Or.inl ⟨by rfl, ?hy41⟩) ?rest41
          case hy41 => (intro w' hw; go_simp; try with_reducible rfl)
          replace hS := SG.set (i := 2) (by decide) (by decide) hS
          try simp only [Act.put, List.setIfInBounds_toArray, List.set_cons_zero, List.set_cons_succ]
          refine wpG_take0 (i := 3) (v := ?v42) rfl (by kernel_rfl) (by kernel_rfl) (by kernel_rfl) (by decide) (by decide) (fun _ _ _ h => h) hS (Or.inl ⟨by rfl, ?hy42⟩) ?rest42
          case hy42 => (intro w' hw; go_simp; try with_reducible rfl)
          replace hS := SG.set (i := 3) (by decide) (by decide) hS
          try simp only [Act.put, List.setIfInBounds_toArray, List.set_cons_zero, List.set_cons_succ]
          refine wpG_take0 (i := 4) (v := ?v43) rfl (by kernel_rfl) (by kernel_rfl) (by kernel_rfl) (by decide) (by decide) (fun _ _ _ h => h) hS (Or.inl ⟨by rfl, ?hy43⟩) ?rest43
          case hy43 => (intro w' hw; have a0 := (hw.cell (p := ⟨gf, of_ + i * 3, none⟩) hlt2).trans x0'; have a1 := (hw.cell (p := ⟨gf, of_ + i * 3 + 1, none⟩) hlt2).trans x1'; have a2 := (hw.cell (p := ⟨gf, of_ + i * 3 + 2, none⟩) hlt2).trans x2''; go_simp; try with_reducible rfl)
          replace hS := SG.set (i := 4) (by decide) (by decide) hS
          try simp only [Act.put, List.setIfInBounds_toArray, List.set_cons_zero, List.set_cons_succ]
          refine wpG_take0 (i := 5) (v := ?v44) rfl (by kernel_rfl) (by kernel_rfl) (by kernel_rfl) (by decide) (by decide) (fun _ _ _ h => h) hS (Or.inl ⟨by rfl, ?hy44⟩) ?rest44
          case hy44 => (intro w' hw; have u15 := fun j => (hw.cell (p := ⟨wr.heap.size, j, none⟩) l15).trans (c15 j); go_simp; try with_reducible rfl)
          replace hS := SG.set (i := 5) (by decide) (by decide) hS
          try simp only [Act.put, List.setIfInBounds_toArray, List.set_cons_zero, List.set_cons_succ]
          refine wpG_ready (rs := [6]) (by kernel_rfl) (by simp) ?_
          refine RG.consG rfl rfl (fun K hK => ?_) RG.nil
          go_simp
          refine CPH.out.mono ?_
          rintro e x3 ⟨rfl, hx3⟩
          go_wp2_with fail
          have HG3 := Lib.hid (D8.trans (hx3.mono D8.size))
          clear hx3
          refine hK.out _ _ ⟨HG3.out, fun _ => trivial, fun _ => trivial⟩ (fun hS => ?_)
          clear hK K
          try simp only [Act.put, List.setIfInBounds_toArray, List.set_cons_zero, List.set_cons_succ]
          refine wpG_take0 (i := 7) (v := ?v45) rfl (by kernel_rfl) (by kernel_rfl) (by kernel_rfl) (by decide) (by decide) (fun _ _ _ h => h) hS (Or.inl ⟨by rfl, ?hy45⟩) ?rest45
          case hy45 => (intro w' hw; go_simp; try with_reducible rfl)
          replace hS := SG.set (i := 7) (by decide) (by decide) hS
          try simp only [Act.put, List.setIfInBounds_toArray, List.set_cons_zero, List.set_cons_succ]
          refine wpG_done (by kernel_rfl) ?_ _
          have HBF := Lib.hid (HBqy.out.trans (HG3.out.mono HBqy.out.size))
          clear hS CPH HG3 c13 c15 l13 l15 D8 x0' x1' x2'' v0 v1 v2 hlt2 HBqy hg1
          go_wp2_with fail
          go_roundg (m - j)
          case measure => omega
          case rel => exact ⟨j, by rw [hj]; go_num, by omega, by omega, HBF.out⟩
        · have hil2 : ¬ (i : Int) < (m : Int) := by omega
          skip
          have CA := Lib.hid (awake9_any _ (Tabs.step HT.out HBw.out) (HE.out.below HBw.out))
          go_wp2_with fail
          refine CA.out.mono ?_
          rintro e w9 ⟨rfl, hb9⟩
          have HB9 := Lib.hid (HBw.out.trans (hb9.mono HBw.out.size))
          clear hb9 CA
          go_wp2_with fail
          (first | go_ret | go_ret2)
          exact ⟨rfl, HB9.out⟩
end Tm
end Go.Proofs.YtifkjngclkklfaaGreatDoor
