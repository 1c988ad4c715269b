/- Contracts: the record of names and parts, by the document. -/
import Derived.Test.YtbjlhdjcdinmhaaDoorQN
namespace Go.Proofs.YtbjlhdjcdinmhaaDoor
open Go.RowKit Go.Op
namespace Vm
/-- The record as far as it has been laid. -/
def RD (w W : World) (P : Nat → Prop) (ns : List ByteArray) (ps : List Vl) (i : Nat) (wr : World) (tn : List ByteArray) (tp : List Vl) (Bn2 : Option Addr) (dn2 : Nat) (B2 : Option Addr) (d2 : Nat) : Prop :=
  IsRec (ns.take i) (ps.take i) (.mk ⟨3, 0, ⟨#[]⟩⟩ tn tp) ∧ (ns.take i).Nodup ∧ VI wr (fun g => (P g ∧ g < w.heap.size) ∨ w.heap.size + 2 ≤ g) (.mk ⟨3, 0, ⟨#[]⟩⟩ tn tp) Bn2 dn2 B2 d2 ∧ RowB wr (w.heap.size + 1) 25 (rzv (.slice Bn2 tn.length dn2) (.slice B2 tp.length d2)) ∧ Fr (w.heap.size + 1) W.heap.size W wr
set_option maxHeartbeats 16000000 in
set_option maxRecDepth 100000 in
theorem rrec_any (w : World) (ns : List ByteArray) (ps : List Vl) (P : Nat → Prop) (An : Option Addr) (cn : Nat) (A : Option Addr) (c : Nat) (hN : NV w P ns An cn) (hT : VV w P ps A c) (hl : ns.length ≤ 1000000) :
    Calls Tryd.prog 24 #[.slice An ns.length cn, .slice A ps.length c] w (RecQ P ns ps w) := by
  have b1 : Below w.heap.size w (w.alloc (.cells zvc 25)) := bel1 w _
  have R0 := Lib.hid (RowB.new w 25 zvc)
  have HB1 := Lib.hid b1
  by_cases he : ns.length = ps.length
  case neg =>
    have HE := Lib.hid he
    have r0 := R0.out.cell
    have r0t := R0.out.thaw
    generalize hn : ns.length = n at *
    generalize hm : ps.length = m at *
    have he1 : ((n : Int) != (m : Int)) = true := by simp; omega
    have HN := Lib.hid hn
    have HM := Lib.hid hm
    clear hN hT hl b1 he hn hm
    go_enter Tryd.func24, Tryd.ntmps24
    go_wp2_with fail
    refine bodyPost_ret (v := .tuple #[zv, .int .i64 1]) ?_ rfl (RecQ.none HB1.out (.inl ⟨rfl, by rw [HN.out, HM.out]; exact HE.out⟩))
    simp [results, Tryd.results24, go_sem, r0]
    try first | rfl | exact ⟨rfl, rfl⟩
  case pos =>
    rw [← he]
    have b2 : Below (w.alloc (.cells zvc 25)).heap.size (w.alloc (.cells zvc 25)) _ := bel1 _ (.cells rz 25)
    obtain ⟨W, hW0⟩ : ∃ W0, W0 = (w.alloc (.cells zvc 25)).alloc (.cells rz 25) := ⟨_, rfl⟩
    have HB : Hid (Below w.heap.size w W) := by
      rw [hW0]
      exact b1.trans (b2.mono b1.size)
    have Y0 : Hid (RowB W w.heap.size 25 zvc) := by
      rw [hW0]
      exact R0.out.alloc _
    have Y1 : Hid (RowB W (w.heap.size + 1) 25 rz) := by
      have := RowB.new (w.alloc (.cells zvc 25)) 25 rz
      rw [hW0]
      unfold Hid
      simpa using this
    have hTW : Hid (w.heap.size + 2 ≤ W.heap.size) := by
      unfold Hid
      rw [hW0]
      simp
    have HE := Lib.hid he
    have HNW : Hid (NV W (fun g => P g ∧ g < w.heap.size) ns An cn) := hN.low.below HB.out
    have HTW : Hid (VV W (fun g => P g ∧ g < w.heap.size) ps A c) := hT.low.below HB.out
    obtain ⟨n, hn⟩ : ∃ n, n = ns.length := ⟨_, rfl⟩
    rw [← hn]
    have HN := Lib.hid hn
    have hn1 : n ≤ 1000000 := by omega
    clear hN hT hl b1 b2 he hn R0 HB1
    go_enter Tryd.func24, Tryd.ntmps24
    go_wp2_with fail
    rw [← hW0]
    clear hW0
    go_loopg [7] (n + 1) (fun kx s7 wr => ∃ i : Nat, s7 = .int .i64 i ∧ n - i ≤ kx ∧ i ≤ n ∧ Hid (∃ tn tp Bn2 dn2 B2 d2, RD w W P ns ps i wr tn tp Bn2 dn2 B2 d2))
    case atStart => exact ⟨0, rfl, by omega, by omega, [], [], none, 0, none, 0, rec_start, List.nodup_nil, VI_iff.2 ⟨NV.nil _ _ _ _, VV.nil _ _ _ _⟩, Y1.out, Fr.refl _ _ _⟩
    case round =>
      obtain ⟨i, rfl, hkx, hin, tn, tp, Bn2, dn2, B2, d2, hrd⟩ := hrel
      obtain ⟨V, hV⟩ : ∃ V, V = wr := ⟨_, rfl⟩
      subst hV
      have HRD := Lib.hid hrd
      clear hrd
      by_cases hi : i < n
      · have hil : (i : Int) < (n : Int) := by omega
        obtain ⟨x, hx⟩ := get_lt (l := ns) (i := i) (by rw [← HN.out]; exact hi)
        obtain ⟨p, hp⟩ := get_lt (l := ps) (i := i) (by rw [← HE.out, ← HN.out]; exact hi)
        have hfr := HRD.out.2.2.2.2
        have hkk : ∀ g, P g ∧ g < w.heap.size → g < W.heap.size → V.heap[g]? = W.heap[g]? ∧ P g ∧ g < w.heap.size := fun g hg hl => ⟨hfr.block g hl (by have := hg.2; omega), hg⟩
        have HNV : Hid (NV V (fun g => P g ∧ g < w.heap.size) ns An cn) := HNW.out.keep hfr.size hkk
        have HTV : Hid (VV V (fun g => P g ∧ g < w.heap.size) ps A c) := HTW.out.keep hfr.size hkk
        obtain ⟨g0, o0, hA0, hP0, hg0, y0, hz0⟩ := HNV.out.nth hx
        obtain ⟨g, o, En, en, E, e3, hA1, hP1, hg1, hti, u0, u1, u2, u3, u4⟩ := HTV.out.nth hp
        have hne0 : g0 ≠ w.heap.size + 1 := by have := hP0.2; omega
        have hne1 : g ≠ w.heap.size + 1 := by have := hP1.2; omega
        have HTI := Lib.hid hti
        have HX := Lib.hid hx
        have HP := Lib.hid hp
        have HZ := Lib.hid hz0
        have HNT : Hid (tn.length ≤ i ∧ tn.length = tp.length) := by
          have h1 := HRD.out.1
          have h2 := h1.len_le
          have h3 := h1.len
          simp only [names_mk, parts_mk, List.length_take] at h2 h3
          exact ⟨by omega, h3⟩
        obtain ⟨nt, hnt⟩ : ∃ nt, nt = tn.length := ⟨_, rfl⟩
        obtain ⟨mt, hmt⟩ : ∃ mt, mt = tp.length := ⟨_, rfl⟩
        have HNT2 := Lib.hid hnt
        have HMT := Lib.hid hmt
        have HNM : Hid (nt = mt) := by unfold Hid; rw [hnt, hmt]; exact HNT.out.2
        have hnt1 : nt ≤ 1000001 := by have := HNT.out.1; omega
        have HTN0 : Hid (NV V (fun g => (P g ∧ g < w.heap.size) ∨ w.heap.size + 2 ≤ g) tn Bn2 dn2 ∧ VV V (fun g => (P g ∧ g < w.heap.size) ∨ w.heap.size + 2 ≤ g) tp B2 d2) := VI_iff.1 HRD.out.2.2.1
        have q6 : nt ≤ dn2 := by rw [hnt]; exact HTN0.out.1.1
        have q7 : mt ≤ d2 := by rw [hmt]; exact HTN0.out.2.1
        have zt := HRD.out.2.2.2.1.cell
        rw [← hnt, ← hmt] at zt
        subst hA0 hA1
        clear hx hp hfr hkk hz0 hti hnt hmt hP0 hP1
        have HC0 : Hid (V.cell? ⟨g0, o0 + i, none⟩ = some (.string x)) := y0
        have HC1 : Hid (V.cell? ⟨g, o + i * 5, none⟩ = some (.int .i64 p.hd.kind) ∧ V.cell? ⟨g, o + i * 5 + 1, none⟩ = some (.int .i64 p.hd.n) ∧ V.cell? ⟨g, o + i * 5 + 2, none⟩ = some (.string p.hd.s) ∧ V.cell? ⟨g, o + i * 5 + 3, none⟩ = some (.slice En p.names.length en) ∧ V.cell? ⟨g, o + i * 5 + 4, none⟩ = some (.slice E p.parts.length e3)) := ⟨u0, u1, u2, u3, u4⟩
        have HZT : Hid (∀ j, V.cell? ⟨w.heap.size + 1, j, none⟩ = (rzv (.slice Bn2 nt dn2) (.slice B2 mt d2))[j]?) := zt
        clear y0 u0 u1 u2 u3 u4 zt
        have HLTV : Hid (w.heap.size + 1 < V.heap.size) := HRD.out.2.2.2.1.lt
        have HFC : Hid (∀ w', Below V.heap.size V w' → (∀ j, w'.cell? ⟨w.heap.size + 1, j, none⟩ = (rzv (.slice Bn2 nt dn2) (.slice B2 mt d2))[j]?) ∧ w'.cell? ⟨g0, o0 + i, none⟩ = some (.string x)) := fun w' hb => ⟨fun j => (hb.cell (p := ⟨w.heap.size + 1, j, none⟩) HLTV.out).trans (HZT.out j), (hb.cell (p := ⟨g0, o0 + i, none⟩) hg0).trans HC0.out⟩
        go_wp2_with fail
        go_loopg [8] (nt + 1) (fun kx s8 wq => ∃ a : Nat, s8 = .int .i64 a ∧ nt - a ≤ kx ∧ a ≤ nt ∧ Hid (∀ y ∈ tn.take a, lt y x = true) ∧ Hid (Below V.heap.size V wq))
        case atStart => exact ⟨0, rfl, by omega, by omega, (by simp [Hid]), Below.refl _ _⟩
        case round =>
          obtain ⟨a, rfl, hka, han, HL, HBQ⟩ := hrel
          obtain ⟨z1, y0⟩ := HFC.out wr HBQ.out
          go_upto_region 8 with fail
          go_cut [39] from 23 to 38 (fun s39 wx => ∃ b : Bool, s39 = .bool b ∧ Hid (b = true → a < nt ∧ ∀ z ∈ tn.take (a + 1), lt z x = true) ∧ Hid (b = false → ∀ z, tn[a]? = some z → lt z x = false) ∧ Hid (Below V.heap.size V wx))
          case first =>
            by_cases ha : a < nt
            · have hal : (a : Int) < (nt : Int) := by omega
              obtain ⟨y, hy⟩ := get_lt (l := tn) (i := a) (by rw [← HNT2.out]; exact ha)
              obtain ⟨g2, o2, hA2, hP2, hg2, y2', _⟩ := HTN0.out.1.nth hy
              have y2 := (HBQ.out.cell (p := ⟨g2, o2 + a, none⟩) hg2).trans y2'
              subst hA2
              have HY := Lib.hid hy
              have HA : Hid (a < nt) := ha
              clear hy y2' hP2
              by_cases hlt : lt y x = true
              · have hq : bytesLess y.toList x.toList = true := hlt
                have HLT : Hid (∀ z ∈ tn.take (a + 1), lt z x = true) := fun z hz => by
                  rw [List.take_add_one, HY.out, List.mem_append] at hz
                  rcases hz with hz | hz
                  · exact HL.out z hz
                  · obtain rfl : z = y := by simpa using hz
                    exact hlt
                clear hlt
                go_quiet (fail)
                go_wp2_with fail
                go_meet
                exact ⟨true, rfl, (fun _ => ⟨HA.out, HLT.out⟩), (fun h => by cases h), below_drewN HBQ.out _⟩
              · have hq : bytesLess y.toList x.toList = false := by simpa [lt] using hlt
                have HLF : Hid (∀ z, tn[a]? = some z → lt z x = false) := fun z hz => by
                  rw [HY.out] at hz
                  injection hz with hz
                  subst hz
                  exact hq
                clear hlt
                go_quiet (fail)
                go_wp2_with fail
                go_meet
                exact ⟨false, rfl, (fun h => by cases h), (fun _ => HLF.out), below_drewN HBQ.out _⟩
            · have hal : ¬ (a : Int) < (nt : Int) := by omega
              have HLF : Hid (∀ z, tn[a]? = some z → lt z x = false) := fun z hz => by
                have := (List.getElem?_eq_some_iff.1 hz).1
                rw [← HNT2.out] at this
                exact absurd this ha
              clear ha
              go_quiet (fail)
              go_wp2_with fail
              go_meet
              exact ⟨false, rfl, (fun h => by cases h), (fun _ => HLF.out), below_drewN HBQ.out _⟩
          case rest =>
          obtain ⟨b, rfl, HT1, HF1, HBX⟩ := hcut
          obtain ⟨wp, hwp⟩ : ∃ wp, wp = wc := ⟨_, rfl⟩
          subst hwp
          clear z1 y0 HBQ
          cases b
          case true =>
            have HLT := Lib.hid (HT1.out rfl).2
            have hat := (HT1.out rfl).1
            obtain ⟨j, hj⟩ : ∃ j, j = a + 1 := ⟨_, rfl⟩
            rw [← hj] at HLT
            clear HT1 HF1
            go_wp2_with fail
            go_roundg (nt - j)
            case measure => omega
            case rel => exact ⟨j, by rw [hj]; go_num, by omega, by omega, HLT.out, HBX.out⟩
          case false =>
          have HNLT := Lib.hid (HF1.out rfl)
          clear HT1 HF1
          obtain ⟨z1, y0⟩ := HFC.out _ HBX.out
          go_upto_region 10 with fail
          go_cut [58] from 42 to 57 (fun s58 wx => ∃ b : Bool, s58 = .bool b ∧ Hid (b = true → ¬ ns.Nodup) ∧ Hid (b = false → ∀ z, tn[a]? = some z → lt x z = true) ∧ Hid (Below V.heap.size V wx))
          case first =>
            by_cases ha : a < nt
            · have hal : (a : Int) < (nt : Int) := by omega
              obtain ⟨y, hy⟩ := get_lt (l := tn) (i := a) (by rw [← HNT2.out]; exact ha)
              obtain ⟨g2, o2, hA2, hP2, hg2, y2', _⟩ := HTN0.out.1.nth hy
              have y2 := (HBX.out.cell (p := ⟨g2, o2 + a, none⟩) hg2).trans y2'
              subst hA2
              have HY := Lib.hid hy
              clear hy y2' hP2 ha
              by_cases hxy : y = x
              · subst hxy
                have HND : Hid (¬ ns.Nodup) := nodup_not HX.out (by
                  have h1 := (rec_names HRD.out.1 (by rw [List.length_take, List.length_take, HE.out]) y).1 (List.mem_of_getElem? HY.out)
                  exact h1)
                have hqq : (y.toList == y.toList) = true := by simp
                go_quiet (fail)
                go_wp2_with fail
                go_meet
                exact ⟨true, rfl, (fun _ => HND.out), (fun h => by cases h), below_drewN HBX.out _⟩
              · have hqq : (y.toList == x.toList) = false := by rw [beq_ba]; exact decide_eq_false hxy
                have HNX : Hid (∀ z, tn[a]? = some z → lt x z = true) := fun z hz => by
                  have h0 := HNLT.out z hz
                  rw [HY.out] at hz
                  injection hz with hz
                  subst hz
                  cases h2 : lt x y with
                  | true => rfl
                  | false => exact absurd (lt_tri h0 h2) hxy
                clear hxy
                go_quiet (fail)
                go_wp2_with fail
                go_meet
                exact ⟨false, rfl, (fun h => by cases h), (fun _ => HNX.out), below_drewN HBX.out _⟩
            · have hal : ¬ (a : Int) < (nt : Int) := by omega
              have HLF : Hid (∀ z, tn[a]? = some z → lt x z = true) := fun z hz => by
                have := (List.getElem?_eq_some_iff.1 hz).1
                rw [← HNT2.out] at this
                exact absurd this ha
              clear ha
              go_quiet (fail)
              go_wp2_with fail
              go_meet
              exact ⟨false, rfl, (fun h => by cases h), (fun _ => HLF.out), below_drewN HBX.out _⟩
          case rest =>
          obtain ⟨b, rfl, HT1, HF1, HBW⟩ := hcut
          obtain ⟨wb, hwb⟩ : ∃ wb, wb = wc := ⟨_, rfl⟩
          subst hwb
          clear z1 y0 HBX HNLT
          cases b
          case true =>
            have HND := Lib.hid (HT1.out rfl)
            have hf2 := (HRD.out.2.2.2.2.step (.of HBW.out))
            have Y2 := Lib.hid (hf2.row Y0.out (by have := hTW.out; omega) (Nat.ne_of_lt (Nat.lt_succ_self _)))
            have HB2' := Lib.hid (HB.out.trans (hf2.below (by have := hTW.out; omega) (Nat.le_succ _)))
            have z0 := Y2.out.cell
            have z0t := Y2.out.thaw
            clear hf2
            go_wp2_with fail
            refine bodyPost_ret (v := .tuple #[zv, .int .i64 40]) ?_ rfl (RecQ.none (below_put5 HB2'.out (Nat.le_refl _) _ _ _ _ _) (.inr ⟨rfl, HE.out, HND.out⟩))
            simp [results, Tryd.results24, go_sem, z0]
            try first | rfl | exact ⟨rfl, rfl⟩
          case false =>
          have HNX := Lib.hid (HF1.out rfl)
          have HRECI := Lib.hid (rec_ins HRD.out.1 HX.out HP.out HL.out HNX.out)
          have HND2 := Lib.hid (nodup_next HX.out HRD.out.2.1 (fun h => ins_no HRD.out.1.rise HL.out HNX.out ((rec_names HRD.out.1 (by rw [List.length_take, List.length_take, HE.out]) x).2 h)))
          have HFRD : Hid (Fr (w.heap.size + 1) W.heap.size W wb) := HRD.out.2.2.2.2.step (.of HBW.out)
          have HWV : Hid (V.heap.size ≤ wb.heap.size) := HBW.out.size
          obtain ⟨W9, h9⟩ : ∃ W9, W9 = wb.alloc (.cells rz 25) := ⟨_, rfl⟩
          have HB9 : Hid (Below V.heap.size V W9) := by rw [h9]; exact HBW.out.alloc HBW.out.size _
          have T9 : RowB W9 wb.heap.size 25 rz := by rw [h9]; exact RowB.new wb 25 rz
          have HS9 : Hid (W9.heap.size = wb.heap.size + 1) := by rw [h9]; simp [Hid]
          have HT9 : Hid (wb.heap.size < W9.heap.size) := by have := HS9.out; unfold Hid; omega
          have HTB : Hid (w.heap.size + 1 < W9.heap.size) := by have := HLTV.out; have := HWV.out; have := HS9.out; unfold Hid; omega
          have HT6 : Hid (w.heap.size + 1 ≠ wb.heap.size) := by have := HLTV.out; have := HWV.out; unfold Hid; omega
          have HZ6 : Hid (∀ j, W9.cell? ⟨w.heap.size + 1, j, none⟩ = (rzv (.slice Bn2 nt dn2) (.slice B2 mt d2))[j]?) := (HFC.out _ HB9.out).1
          have HG0 : Hid (g0 < W9.heap.size ∧ g0 ≠ wb.heap.size) := by have := HWV.out; have := HS9.out; unfold Hid; omega
          have HG1 : Hid (g < W9.heap.size ∧ g ≠ wb.heap.size) := by have := HWV.out; have := HS9.out; unfold Hid; omega
          replace HC0 : Hid (W9.cell? ⟨g0, o0 + i, none⟩ = some (.string x)) := (HB9.out.cell (p := ⟨g0, o0 + i, none⟩) hg0).trans HC0.out
          replace HC1 : Hid (W9.cell? ⟨g, o + i * 5, none⟩ = some (.int .i64 p.hd.kind) ∧ W9.cell? ⟨g, o + i * 5 + 1, none⟩ = some (.int .i64 p.hd.n) ∧ W9.cell? ⟨g, o + i * 5 + 2, none⟩ = some (.string p.hd.s) ∧ W9.cell? ⟨g, o + i * 5 + 3, none⟩ = some (.slice En p.names.length en) ∧ W9.cell? ⟨g, o + i * 5 + 4, none⟩ = some (.slice E p.parts.length e3)) := ⟨(HB9.out.cell (p := ⟨g, o + i * 5, none⟩) hg1).trans HC1.out.1, (HB9.out.cell (p := ⟨g, o + i * 5 + 1, none⟩) hg1).trans HC1.out.2.1, (HB9.out.cell (p := ⟨g, o + i * 5 + 2, none⟩) hg1).trans HC1.out.2.2.1, (HB9.out.cell (p := ⟨g, o + i * 5 + 3, none⟩) hg1).trans HC1.out.2.2.2.1, (HB9.out.cell (p := ⟨g, o + i * 5 + 4, none⟩) hg1).trans HC1.out.2.2.2.2⟩
          obtain ⟨Pq, hPq⟩ : ∃ Pq : Nat → Prop, Pq = fun g => ((P g ∧ g < w.heap.size) ∨ w.heap.size + 2 ≤ g) ∧ g < wb.heap.size := ⟨_, rfl⟩
          have HPQ : Hid (∀ g, Pq g → ((P g ∧ g < w.heap.size) ∨ w.heap.size + 2 ≤ g) ∧ g < wb.heap.size) := by rw [hPq]; exact fun g h => h
          have HPP : Hid (∀ g, Pq g → g < W9.heap.size ∧ g ≠ wb.heap.size) := fun g h => by have := (HPQ.out g h).2; have := HS9.out; omega
          have HTN9 : NV W9 Pq tn Bn2 dn2 ∧ VV W9 Pq tp B2 d2 := by
            rw [hPq]
            exact ⟨HTN0.out.1.keep HB9.out.size (fun g hg hl => ⟨HB9.out.block g hl, hg, Nat.lt_of_lt_of_le hl HWV.out⟩), HTN0.out.2.keep HB9.out.size (fun g hg hl => ⟨HB9.out.block g hl, hg, Nat.lt_of_lt_of_le hl HWV.out⟩)⟩
          have HTN : Hid (∀ wa, Fr wb.heap.size W9.heap.size W9 wa → NV wa Pq tn Bn2 dn2 ∧ VV wa Pq tp B2 d2) := fun wa hf =>
            ⟨HTN9.1.keep hf.size (fun g hg hl => ⟨hf.block g (HPP.out g hg).1 (HPP.out g hg).2, hg⟩), HTN9.2.keep hf.size (fun g hg hl => ⟨hf.block g (HPP.out g hg).1 (HPP.out g hg).2, hg⟩)⟩
          replace HTI : Hid (VI W9 Pq p En en E e3) := by
            rw [hPq]
            exact HTI.out.keep HB9.out.size (fun g hg hl => ⟨HB9.out.block g hl, .inl hg, Nat.lt_of_lt_of_le hl HWV.out⟩)
          have HFR9 : Hid (Fr (w.heap.size + 1) W.heap.size W W9) := by rw [h9]; exact HFRD.out.alloc HFRD.out.size _
          have HAM : Hid (a ≤ tp.length) := by have := HNM.out; have := HMT.out; unfold Hid; omega
          have HNTB : Hid (mt ≤ 1000001) := by have := HNM.out; unfold Hid; omega
          have R6 : Hid (RowB W9 (w.heap.size + 1) 25 (rzv (.slice Bn2 nt dn2) (.slice B2 mt d2))) := by
            have h := HRD.out.2.2.2.1.below HB9.out HLTV.out
            rw [← HNT2.out, ← HMT.out] at h
            exact h
          have HLW : Hid (w.heap.size + 2 ≤ wb.heap.size) := by have := HLTV.out; have := HWV.out; unfold Hid; omega
          have q1 : (0 : Int) ≤ (a : Int) := by omega
          have q2 : (a : Int) ≤ (nt : Int) := by omega
          have q3 : (a : Int) ≤ (dn2 : Int) := by omega
          have q8 : (a : Int) ≤ (mt : Int) := by have := HNM.out; omega
          have q4 : (a : Int) ≤ (d2 : Int) := by have := HNM.out; omega
          have HI : Hid (i < n) := hi
          have A0 : RU W9 W9 wb.heap.size Pq (.slice none 0 0) (.slice none 0 0) [] [] [] := RU.start _ _ _
          have HZX := Lib.hid (show ∀ s ∈ insAt tn a x, s.size ≤ 140737488351232 from fun s hs => by
            rcases insAt_mem.1 hs with rfl | hs
            · exact HZ.out
            · exact HTN0.out.1.2.1 s hs)
          clear HT1 HF1 hPq HTN9 HFC HZT HB9 HBW HL HNX HTN0 HRD HNV HTV hg0 hg1 hne0 hne1 HX HP HZ HLTV HWV
          obtain ⟨hp, np, pp⟩ := p
          simp only [hd_mk, names_mk, parts_mk] at HC1 HRECI
          go_upto_region 13 with fail
          rw [← h9]
          clear h9
          obtain ⟨WB, hWB⟩ : ∃ WB, WB = W9 := ⟨_, rfl⟩
          rw [← hWB]
          replace A0 : RU W9 WB wb.heap.size Pq (.slice none 0 0) (.slice none 0 0) [] [] [] := by rw [hWB]; exact A0
          replace T9 : RowB WB wb.heap.size 25 (rzv (.slice none 0 0) (.slice none 0 0)) := by rw [hWB]; exact T9
          clear hWB
          go_cut [79] from 61 to 78 (fun s79 wx => Hid (∃ (B3 : Option Addr) (b3 : Nat), RU W9 wx wb.heap.size Pq (.slice B3 (nt + 1) b3) (.slice none 0 0) (insAt tn a x) [] [] ∧ RowB wx wb.heap.size 25 (rzv (.slice B3 (nt + 1) b3) (.slice none 0 0))))
          case first =>
            refine wp_region_G (S := SG (fun w' => Fr wb.heap.size W9.heap.size W9 w') 19 (fun w' => w'.cell? ⟨wb.heap.size, 3, none⟩ = some (.slice none 0 0)) 99 (fun _ => True)) (by kernel_rfl) ⟨A0.drew.fr, fun _ => T9.cell 3, fun _ => trivial⟩ (fun hS => ?_)
            have AD := A0.drew
            have D9 : RowB WB.drew wb.heap.size 25 (rzv (.slice none 0 0) (.slice none 0 0)) := T9
            obtain ⟨wd, hwd⟩ : ∃ wd, wd = WB.drew := ⟨_, rfl⟩
            rw [← hwd] at hS AD D9 ⊢
            clear hwd T9 A0
            refine wpG_take0 (i := 0) (v := ?v1) rfl (by kernel_rfl) (by kernel_rfl) (by kernel_rfl) (by decide) (by decide) (fun _ _ _ h => h) hS (Or.inl ⟨by rfl, ?hy1⟩) ?rest1
            case hy1 => (intro w' hw; (try dsimp only at hw); have u0 := (hw.cell (p := ⟨w.heap.size + 1, 0, none⟩) HTB.out HT6.out).trans (HZ6.out 0); have u3 := (hw.cell (p := ⟨w.heap.size + 1, 3, none⟩) HTB.out HT6.out).trans (HZ6.out 3); have u4 := (hw.cell (p := ⟨w.heap.size + 1, 4, none⟩) HTB.out HT6.out).trans (HZ6.out 4); have k0 := (hw.cell (p := ⟨g0, o0 + i, none⟩) HG0.out.1 HG0.out.2).trans HC0.out; have k1 := (hw.cell (p := ⟨g, o + i * 5, none⟩) HG1.out.1 HG1.out.2).trans HC1.out.1; have k2 := (hw.cell (p := ⟨g, o + i * 5 + 1, none⟩) HG1.out.1 HG1.out.2).trans HC1.out.2.1; have k3 := (hw.cell (p := ⟨g, o + i * 5 + 2, none⟩) HG1.out.1 HG1.out.2).trans HC1.out.2.2.1; have k4 := (hw.cell (p := ⟨g, o + i * 5 + 3, none⟩) HG1.out.1 HG1.out.2).trans HC1.out.2.2.2.1; have k5 := (hw.cell (p := ⟨g, o + i * 5 + 4, none⟩) HG1.out.1 HG1.out.2).trans HC1.out.2.2.2.2; go_simp; try with_reducible rfl)
            replace hS := SG.set (i := 0) (by decide) (by decide) hS
            try simp only [Act.put, List.setIfInBounds_toArray, List.set_cons_zero, List.set_cons_succ]
            refine wpG_take1 (i := 1) (v := ?v2) rfl (by kernel_rfl) (by kernel_rfl) (by kernel_rfl) (by decide) (by decide) (by kernel_rfl) (by kernel_rfl) (fun _ _ _ h => h) hS (Or.inl ⟨by rfl, ?hy2⟩) ?rest2
            case hy2 => (intro w' hw; (try dsimp only at hw); obtain ⟨_, u9⟩ := hw; go_simp; try with_reducible rfl)
            replace hS := SG.set (i := 1) (by decide) (by decide) hS
            try simp only [Act.put, List.setIfInBounds_toArray, List.set_cons_zero, List.set_cons_succ]
            refine wpG_take0 (i := 2) (v := ?v3) rfl (by kernel_rfl) (by kernel_rfl) (by kernel_rfl) (by decide) (by decide) (fun _ _ _ h => h) hS (Or.inl ⟨by rfl, ?hy3⟩) ?rest3
            case hy3 => (intro w' hw; (try dsimp only at hw); have u0 := (hw.cell (p := ⟨w.heap.size + 1, 0, none⟩) HTB.out HT6.out).trans (HZ6.out 0); have u3 := (hw.cell (p := ⟨w.heap.size + 1, 3, none⟩) HTB.out HT6.out).trans (HZ6.out 3); have u4 := (hw.cell (p := ⟨w.heap.size + 1, 4, none⟩) HTB.out HT6.out).trans (HZ6.out 4); have k0 := (hw.cell (p := ⟨g0, o0 + i, none⟩) HG0.out.1 HG0.out.2).trans HC0.out; have k1 := (hw.cell (p := ⟨g, o + i * 5, none⟩) HG1.out.1 HG1.out.2).trans HC1.out.1; have k2 := (hw.cell (p := ⟨g, o + i * 5 + 1, none⟩) HG1.out.1 HG1.out.2).trans HC1.out.2.1; have k3 := (hw.cell (p := ⟨g, o + i * 5 + 2, none⟩) HG1.out.1 HG1.out.2).trans HC1.out.2.2.1; have k4 := (hw.cell (p := ⟨g, o + i * 5 + 3, none⟩) HG1.out.1 HG1.out.2).trans HC1.out.2.2.2.1; have k5 := (hw.cell (p := ⟨g, o + i * 5 + 4, none⟩) HG1.out.1 HG1.out.2).trans HC1.out.2.2.2.2; go_simp; try with_reducible rfl)
            replace hS := SG.set (i := 2) (by decide) (by decide) hS
            try simp only [Act.put, List.setIfInBounds_toArray, List.set_cons_zero, List.set_cons_succ]
            refine wpG_take0 (i := 3) (v := ?v4) rfl (by kernel_rfl) (by kernel_rfl) (by kernel_rfl) (by decide) (by decide) (fun _ _ _ h => h) hS (Or.inl ⟨by rfl, ?hy4⟩) ?rest4
            case hy4 => (intro w' hw; (try dsimp only at hw); have u0 := (hw.cell (p := ⟨w.heap.size + 1, 0, none⟩) HTB.out HT6.out).trans (HZ6.out 0); have u3 := (hw.cell (p := ⟨w.heap.size + 1, 3, none⟩) HTB.out HT6.out).trans (HZ6.out 3); have u4 := (hw.cell (p := ⟨w.heap.size + 1, 4, none⟩) HTB.out HT6.out).trans (HZ6.out 4); have k0 := (hw.cell (p := ⟨g0, o0 + i, none⟩) HG0.out.1 HG0.out.2).trans HC0.out; have k1 := (hw.cell (p := ⟨g, o + i * 5, none⟩) HG1.out.1 HG1.out.2).trans HC1.out.1; have k2 := (hw.cell (p := ⟨g, o + i * 5 + 1, none⟩) HG1.out.1 HG1.out.2).trans HC1.out.2.1; have k3 := (hw.cell (p := ⟨g, o + i * 5 + 2, none⟩) HG1.out.1 HG1.out.2).trans HC1.out.2.2.1; have k4 := (hw.cell (p := ⟨g, o + i * 5 + 3, none⟩) HG1.out.1 HG1.out.2).trans HC1.out.2.2.2.1; have k5 := (hw.cell (p := ⟨g, o + i * 5 + 4, none⟩) HG1.out.1 HG1.out.2).trans HC1.out.2.2.2.2; go_simp; try with_reducible rfl)
            replace hS := SG.set (i := 3) (by decide) (by decide) hS
            try simp only [Act.put, List.setIfInBounds_toArray, List.set_cons_zero, List.set_cons_succ]
            refine wpG_take0 (i := 4) (v := ?v5) rfl (by kernel_rfl) (by kernel_rfl) (by kernel_rfl) (by decide) (by decide) (fun _ _ _ h => h) hS (Or.inl ⟨by rfl, ?hy5⟩) ?rest5
            case hy5 => (intro w' hw; (try dsimp only at hw); have u0 := (hw.cell (p := ⟨w.heap.size + 1, 0, none⟩) HTB.out HT6.out).trans (HZ6.out 0); have u3 := (hw.cell (p := ⟨w.heap.size + 1, 3, none⟩) HTB.out HT6.out).trans (HZ6.out 3); have u4 := (hw.cell (p := ⟨w.heap.size + 1, 4, none⟩) HTB.out HT6.out).trans (HZ6.out 4); have k0 := (hw.cell (p := ⟨g0, o0 + i, none⟩) HG0.out.1 HG0.out.2).trans HC0.out; have k1 := (hw.cell (p := ⟨g, o + i * 5, none⟩) HG1.out.1 HG1.out.2).trans HC1.out.1; have k2 := (hw.cell (p := ⟨g, o + i * 5 + 1, none⟩) HG1.out.1 HG1.out.2).trans HC1.out.2.1; have k3 := (hw.cell (p := ⟨g, o + i * 5 + 2, none⟩) HG1.out.1 HG1.out.2).trans HC1.out.2.2.1; have k4 := (hw.cell (p := ⟨g, o + i * 5 + 3, none⟩) HG1.out.1 HG1.out.2).trans HC1.out.2.2.2.1; have k5 := (hw.cell (p := ⟨g, o + i * 5 + 4, none⟩) HG1.out.1 HG1.out.2).trans HC1.out.2.2.2.2; go_simp; try with_reducible rfl)
            replace hS := SG.set (i := 4) (by decide) (by decide) hS
            try simp only [Act.put, List.setIfInBounds_toArray, List.set_cons_zero, List.set_cons_succ]
            refine wpG_take0 (i := 5) (v := ?v6) rfl (by kernel_rfl) (by kernel_rfl) (by kernel_rfl) (by decide) (by decide) (fun _ _ _ h => h) hS (Or.inl ⟨by rfl, ?hy6⟩) ?rest6
            case hy6 => (intro w' hw; (try dsimp only at hw); have u0 := (hw.cell (p := ⟨w.heap.size + 1, 0, none⟩) HTB.out HT6.out).trans (HZ6.out 0); have u3 := (hw.cell (p := ⟨w.heap.size + 1, 3, none⟩) HTB.out HT6.out).trans (HZ6.out 3); have u4 := (hw.cell (p := ⟨w.heap.size + 1, 4, none⟩) HTB.out HT6.out).trans (HZ6.out 4); have k0 := (hw.cell (p := ⟨g0, o0 + i, none⟩) HG0.out.1 HG0.out.2).trans HC0.out; have k1 := (hw.cell (p := ⟨g, o + i * 5, none⟩) HG1.out.1 HG1.out.2).trans HC1.out.1; have k2 := (hw.cell (p := ⟨g, o + i * 5 + 1, none⟩) HG1.out.1 HG1.out.2).trans HC1.out.2.1; have k3 := (hw.cell (p := ⟨g, o + i * 5 + 2, none⟩) HG1.out.1 HG1.out.2).trans HC1.out.2.2.1; have k4 := (hw.cell (p := ⟨g, o + i * 5 + 3, none⟩) HG1.out.1 HG1.out.2).trans HC1.out.2.2.2.1; have k5 := (hw.cell (p := ⟨g, o + i * 5 + 4, none⟩) HG1.out.1 HG1.out.2).trans HC1.out.2.2.2.2; go_simp; try with_reducible rfl)
            replace hS := SG.set (i := 5) (by decide) (by decide) hS
            try simp only [Act.put, List.setIfInBounds_toArray, List.set_cons_zero, List.set_cons_succ]
            refine wpG_take0 (i := 7) (v := ?v7) rfl (by kernel_rfl) (by kernel_rfl) (by kernel_rfl) (by decide) (by decide) (fun _ _ _ h => h) hS (Or.inl ⟨by rfl, ?hy7⟩) ?rest7
            case hy7 => (intro w' hw; (try dsimp only at hw); have u0 := (hw.cell (p := ⟨w.heap.size + 1, 0, none⟩) HTB.out HT6.out).trans (HZ6.out 0); have u3 := (hw.cell (p := ⟨w.heap.size + 1, 3, none⟩) HTB.out HT6.out).trans (HZ6.out 3); have u4 := (hw.cell (p := ⟨w.heap.size + 1, 4, none⟩) HTB.out HT6.out).trans (HZ6.out 4); have k0 := (hw.cell (p := ⟨g0, o0 + i, none⟩) HG0.out.1 HG0.out.2).trans HC0.out; have k1 := (hw.cell (p := ⟨g, o + i * 5, none⟩) HG1.out.1 HG1.out.2).trans HC1.out.1; have k2 := (hw.cell (p := ⟨g, o + i * 5 + 1, none⟩) HG1.out.1 HG1.out.2).trans HC1.out.2.1; have k3 := (hw.cell (p := ⟨g, o + i * 5 + 2, none⟩) HG1.out.1 HG1.out.2).trans HC1.out.2.2.1; have k4 := (hw.cell (p := ⟨g, o + i * 5 + 3, none⟩) HG1.out.1 HG1.out.2).trans HC1.out.2.2.2.1; have k5 := (hw.cell (p := ⟨g, o + i * 5 + 4, none⟩) HG1.out.1 HG1.out.2).trans HC1.out.2.2.2.2; go_simp; try with_reducible rfl)
            replace hS := SG.set (i := 7) (by decide) (by decide) hS
            try simp only [Act.put, List.setIfInBounds_toArray, List.set_cons_zero, List.set_cons_succ]
            refine wpG_take0 (i := 8) (v := ?v8) rfl (by kernel_rfl) (by kernel_rfl) (by kernel_rfl) (by decide) (by decide) (fun _ _ _ h => h) hS (Or.inl ⟨by rfl, ?hy8⟩) ?rest8
            case hy8 => (intro w' hw; (try dsimp only at hw); have u0 := (hw.cell (p := ⟨w.heap.size + 1, 0, none⟩) HTB.out HT6.out).trans (HZ6.out 0); have u3 := (hw.cell (p := ⟨w.heap.size + 1, 3, none⟩) HTB.out HT6.out).trans (HZ6.out 3); have u4 := (hw.cell (p := ⟨w.heap.size + 1, 4, none⟩) HTB.out HT6.out).trans (HZ6.out 4); have k0 := (hw.cell (p := ⟨g0, o0 + i, none⟩) HG0.out.1 HG0.out.2).trans HC0.out; have k1 := (hw.cell (p := ⟨g, o + i * 5, none⟩) HG1.out.1 HG1.out.2).trans HC1.out.1; have k2 := (hw.cell (p := ⟨g, o + i * 5 + 1, none⟩) HG1.out.1 HG1.out.2).trans HC1.out.2.1; have k3 := (hw.cell (p := ⟨g, o + i * 5 + 2, none⟩) HG1.out.1 HG1.out.2).trans HC1.out.2.2.1; have k4 := (hw.cell (p := ⟨g, o + i * 5 + 3, none⟩) HG1.out.1 HG1.out.2).trans HC1.out.2.2.2.1; have k5 := (hw.cell (p := ⟨g, o + i * 5 + 4, none⟩) HG1.out.1 HG1.out.2).trans HC1.out.2.2.2.2; go_simp; try with_reducible rfl)
            replace hS := SG.set (i := 8) (by decide) (by decide) hS
            try simp only [Act.put, List.setIfInBounds_toArray, List.set_cons_zero, List.set_cons_succ]
            refine wpG_take0 (i := 9) (v := ?v9) rfl (by kernel_rfl) (by kernel_rfl) (by kernel_rfl) (by decide) (by decide) (fun _ _ _ h => h) hS (Or.inl ⟨by rfl, ?hy9⟩) ?rest9
            case hy9 => (intro w' hw; (try dsimp only at hw); have u0 := (hw.cell (p := ⟨w.heap.size + 1, 0, none⟩) HTB.out HT6.out).trans (HZ6.out 0); have u3 := (hw.cell (p := ⟨w.heap.size + 1, 3, none⟩) HTB.out HT6.out).trans (HZ6.out 3); have u4 := (hw.cell (p := ⟨w.heap.size + 1, 4, none⟩) HTB.out HT6.out).trans (HZ6.out 4); have k0 := (hw.cell (p := ⟨g0, o0 + i, none⟩) HG0.out.1 HG0.out.2).trans HC0.out; have k1 := (hw.cell (p := ⟨g, o + i * 5, none⟩) HG1.out.1 HG1.out.2).trans HC1.out.1; have k2 := (hw.cell (p := ⟨g, o + i * 5 + 1, none⟩) HG1.out.1 HG1.out.2).trans HC1.out.2.1; have k3 := (hw.cell (p := ⟨g, o + i * 5 + 2, none⟩) HG1.out.1 HG1.out.2).trans HC1.out.2.2.1; have k4 := (hw.cell (p := ⟨g, o + i * 5 + 3, none⟩) HG1.out.1 HG1.out.2).trans HC1.out.2.2.2.1; have k5 := (hw.cell (p := ⟨g, o + i * 5 + 4, none⟩) HG1.out.1 HG1.out.2).trans HC1.out.2.2.2.2; go_simp; try with_reducible rfl)
            replace hS := SG.set (i := 9) (by decide) (by decide) hS
            try simp only [Act.put, List.setIfInBounds_toArray, List.set_cons_zero, List.set_cons_succ]
            refine wpG_take0 (i := 10) (v := ?v10) rfl (by kernel_rfl) (by kernel_rfl) (by kernel_rfl) (by decide) (by decide) (fun _ _ _ h => h) hS (Or.inl ⟨by rfl, ?hy10⟩) ?rest10
            case hy10 => (intro w' hw; (try dsimp only at hw); have u0 := (hw.cell (p := ⟨w.heap.size + 1, 0, none⟩) HTB.out HT6.out).trans (HZ6.out 0); have u3 := (hw.cell (p := ⟨w.heap.size + 1, 3, none⟩) HTB.out HT6.out).trans (HZ6.out 3); have u4 := (hw.cell (p := ⟨w.heap.size + 1, 4, none⟩) HTB.out HT6.out).trans (HZ6.out 4); have k0 := (hw.cell (p := ⟨g0, o0 + i, none⟩) HG0.out.1 HG0.out.2).trans HC0.out; have k1 := (hw.cell (p := ⟨g, o + i * 5, none⟩) HG1.out.1 HG1.out.2).trans HC1.out.1; have k2 := (hw.cell (p := ⟨g, o + i * 5 + 1, none⟩) HG1.out.1 HG1.out.2).trans HC1.out.2.1; have k3 := (hw.cell (p := ⟨g, o + i * 5 + 2, none⟩) HG1.out.1 HG1.out.2).trans HC1.out.2.2.1; have k4 := (hw.cell (p := ⟨g, o + i * 5 + 3, none⟩) HG1.out.1 HG1.out.2).trans HC1.out.2.2.2.1; have k5 := (hw.cell (p := ⟨g, o + i * 5 + 4, none⟩) HG1.out.1 HG1.out.2).trans HC1.out.2.2.2.2; go_simp; try with_reducible rfl)
            replace hS := SG.set (i := 10) (by decide) (by decide) hS
            try simp only [Act.put, List.setIfInBounds_toArray, List.set_cons_zero, List.set_cons_succ]
            refine wpG_take0 (i := 13) (v := ?v11) rfl (by kernel_rfl) (by kernel_rfl) (by kernel_rfl) (by decide) (by decide) (fun _ _ _ h => h) hS (Or.inl ⟨by rfl, ?hy11⟩) ?rest11
            case hy11 => (intro w' hw; (try dsimp only at hw); have u0 := (hw.cell (p := ⟨w.heap.size + 1, 0, none⟩) HTB.out HT6.out).trans (HZ6.out 0); have u3 := (hw.cell (p := ⟨w.heap.size + 1, 3, none⟩) HTB.out HT6.out).trans (HZ6.out 3); have u4 := (hw.cell (p := ⟨w.heap.size + 1, 4, none⟩) HTB.out HT6.out).trans (HZ6.out 4); have k0 := (hw.cell (p := ⟨g0, o0 + i, none⟩) HG0.out.1 HG0.out.2).trans HC0.out; have k1 := (hw.cell (p := ⟨g, o + i * 5, none⟩) HG1.out.1 HG1.out.2).trans HC1.out.1; have k2 := (hw.cell (p := ⟨g, o + i * 5 + 1, none⟩) HG1.out.1 HG1.out.2).trans HC1.out.2.1; have k3 := (hw.cell (p := ⟨g, o + i * 5 + 2, none⟩) HG1.out.1 HG1.out.2).trans HC1.out.2.2.1; have k4 := (hw.cell (p := ⟨g, o + i * 5 + 3, none⟩) HG1.out.1 HG1.out.2).trans HC1.out.2.2.2.1; have k5 := (hw.cell (p := ⟨g, o + i * 5 + 4, none⟩) HG1.out.1 HG1.out.2).trans HC1.out.2.2.2.2; go_simp; try with_reducible rfl)
            replace hS := SG.set (i := 13) (by decide) (by decide) hS
            try simp only [Act.put, List.setIfInBounds_toArray, List.set_cons_zero, List.set_cons_succ]
            refine wpG_take0 (i := 14) (v := ?v12) rfl (by kernel_rfl) (by kernel_rfl) (by kernel_rfl) (by decide) (by decide) (fun _ _ _ h => h) hS (Or.inl ⟨by rfl, ?hy12⟩) ?rest12
            case hy12 => (intro w' hw; (try dsimp only at hw); have u0 := (hw.cell (p := ⟨w.heap.size + 1, 0, none⟩) HTB.out HT6.out).trans (HZ6.out 0); have u3 := (hw.cell (p := ⟨w.heap.size + 1, 3, none⟩) HTB.out HT6.out).trans (HZ6.out 3); have u4 := (hw.cell (p := ⟨w.heap.size + 1, 4, none⟩) HTB.out HT6.out).trans (HZ6.out 4); have k0 := (hw.cell (p := ⟨g0, o0 + i, none⟩) HG0.out.1 HG0.out.2).trans HC0.out; have k1 := (hw.cell (p := ⟨g, o + i * 5, none⟩) HG1.out.1 HG1.out.2).trans HC1.out.1; have k2 := (hw.cell (p := ⟨g, o + i * 5 + 1, none⟩) HG1.out.1 HG1.out.2).trans HC1.out.2.1; have k3 := (hw.cell (p := ⟨g, o + i * 5 + 2, none⟩) HG1.out.1 HG1.out.2).trans HC1.out.2.2.1; have k4 := (hw.cell (p := ⟨g, o + i * 5 + 3, none⟩) HG1.out.1 HG1.out.2).trans HC1.out.2.2.2.1; have k5 := (hw.cell (p := ⟨g, o + i * 5 + 4, none⟩) HG1.out.1 HG1.out.2).trans HC1.out.2.2.2.2; go_simp; try with_reducible rfl)
            replace hS := SG.set (i := 14) (by decide) (by decide) hS
            try simp only [Act.put, List.setIfInBounds_toArray, List.set_cons_zero, List.set_cons_succ]
            refine wpG_take0 (i := 15) (v := ?v13) rfl (by kernel_rfl) (by kernel_rfl) (by kernel_rfl) (by decide) (by decide) (fun _ _ _ h => h) hS (Or.inl ⟨by rfl, ?hy13⟩) ?rest13
            case hy13 => (intro w' hw; (try dsimp only at hw); have u0 := (hw.cell (p := ⟨w.heap.size + 1, 0, none⟩) HTB.out HT6.out).trans (HZ6.out 0); have u3 := (hw.cell (p := ⟨w.heap.size + 1, 3, none⟩) HTB.out HT6.out).trans (HZ6.out 3); have u4 := (hw.cell (p := ⟨w.heap.size + 1, 4, none⟩) HTB.out HT6.out).trans (HZ6.out 4); have k0 := (hw.cell (p := ⟨g0, o0 + i, none⟩) HG0.out.1 HG0.out.2).trans HC0.out; have k1 := (hw.cell (p := ⟨g, o + i * 5, none⟩) HG1.out.1 HG1.out.2).trans HC1.out.1; have k2 := (hw.cell (p := ⟨g, o + i * 5 + 1, none⟩) HG1.out.1 HG1.out.2).trans HC1.out.2.1; have k3 := (hw.cell (p := ⟨g, o + i * 5 + 2, none⟩) HG1.out.1 HG1.out.2).trans HC1.out.2.2.1; have k4 := (hw.cell (p := ⟨g, o + i * 5 + 3, none⟩) HG1.out.1 HG1.out.2).trans HC1.out.2.2.2.1; have k5 := (hw.cell (p := ⟨g, o + i * 5 + 4, none⟩) HG1.out.1 HG1.out.2).trans HC1.out.2.2.2.2; go_simp; try with_reducible rfl)
            replace hS := SG.set (i := 15) (by decide) (by decide) hS
            try simp only [Act.put, List.setIfInBounds_toArray, List.set_cons_zero, List.set_cons_succ]
            refine wpG_take0 (i := 16) (v := ?v14) rfl (by kernel_rfl) (by kernel_rfl) (by kernel_rfl) (by decide) (by decide) (fun _ _ _ h => h) hS (Or.inl ⟨by rfl, ?hy14⟩) ?rest14
            case hy14 => (intro w' hw; (try dsimp only at hw); have u0 := (hw.cell (p := ⟨w.heap.size + 1, 0, none⟩) HTB.out HT6.out).trans (HZ6.out 0); have u3 := (hw.cell (p := ⟨w.heap.size + 1, 3, none⟩) HTB.out HT6.out).trans (HZ6.out 3); have u4 := (hw.cell (p := ⟨w.heap.size + 1, 4, none⟩) HTB.out HT6.out).trans (HZ6.out 4); have k0 := (hw.cell (p := ⟨g0, o0 + i, none⟩) HG0.out.1 HG0.out.2).trans HC0.out; have k1 := (hw.cell (p := ⟨g, o + i * 5, none⟩) HG1.out.1 HG1.out.2).trans HC1.out.1; have k2 := (hw.cell (p := ⟨g, o + i * 5 + 1, none⟩) HG1.out.1 HG1.out.2).trans HC1.out.2.1; have k3 := (hw.cell (p := ⟨g, o + i * 5 + 2, none⟩) HG1.out.1 HG1.out.2).trans HC1.out.2.2.1; have k4 := (hw.cell (p := ⟨g, o + i * 5 + 3, none⟩) HG1.out.1 HG1.out.2).trans HC1.out.2.2.2.1; have k5 := (hw.cell (p := ⟨g, o + i * 5 + 4, none⟩) HG1.out.1 HG1.out.2).trans HC1.out.2.2.2.2; go_simp; try with_reducible rfl)
            replace hS := SG.set (i := 16) (by decide) (by decide) hS
            try simp only [Act.put, List.setIfInBounds_toArray, List.set_cons_zero, List.set_cons_succ]
            clear hS
            refine wpG_ready (rs := [6, 11]) (by kernel_rfl) (by simp) ?_
            refine RG.cons rfl rfl (fun K hK => ?_) (RG.cons rfl rfl (fun K hK => ?_) RG.nil)
            · have hli : (tn.take a).length = a := by rw [List.length_take, ← HNT2.out]; omega
              obtain ⟨v1, wa, hr, ho, hg⟩ := append_names (w := wd) W9.heap.size (.slice none 0 0) _ _ AD.o1 Bn2 dn2 (tn.take a) (nv_src (HTN.out _ AD.fr).1 a) (by rw [hli]; simp; omega) AD.fr.size
              have ADx := AD.apps1 ho hg
              rw [hli] at hr
              have ho1 := ADx.o1
              rw [List.nil_append, hli] at ho1
              obtain ⟨B1, b1, rfl, hb1⟩ := own_shape ho1
              have D9x := D9.grown hg (fun e => by cases e)
              clear ho hg ho1 D9 AD hli
              rw [List.nil_append] at ADx
              refine wp_append_run (.tmp 62) (.tmp 66) 22 (by rfl) (by rfl) (by rfl) hr ?_
              refine hK.out _ _ ⟨ADx.fr, fun _ => D9x.cell 3, fun _ => trivial⟩ (fun hS => ?_)
              clear hK K hr hS
              try simp only [Act.put, List.setIfInBounds_toArray, List.set_cons_zero, List.set_cons_succ]
              refine wpG_ready (rs := [11]) (by kernel_rfl) (by simp) ?_
              refine RG.cons rfl rfl (fun K hK => ?_) RG.nil
              have A3 := ADx.alloc (.cells #[Value.string x] 9)
              have D3 := D9x.alloc (.cells #[Value.string x] 9)
              have rx := RowB.new wa 9 #[Value.string x]
              go_simp
              refine hK.out _ _ ⟨A3.fr, fun _ => D3.cell 3, fun _ => trivial⟩ (fun hS => ?_)
              clear hK K hS ADx D9x
              try simp only [Act.put, List.setIfInBounds_toArray, List.set_cons_zero, List.set_cons_succ]
              obtain ⟨we, hwe⟩ : ∃ we, we = wa.alloc (.cells #[Value.string x] 9) := ⟨_, rfl⟩
              rw [← hwe] at A3 D3 rx ⊢
              clear hwe
              refine wpG_ready (rs := [12]) (by kernel_rfl) (by simp) ?_
              refine RG.cons rfl rfl (fun K hK => ?_) RG.nil
              obtain ⟨v2, wf, hr, ho, hg⟩ := append_names (w := we) W9.heap.size (.slice B1 a b1) _ _ A3.o1 (some ⟨wa.heap.size, 0, none⟩) 1 [x] (fun _ => ⟨_, _, rfl, fun j s hj => by
                cases j with
                | zero => simp at hj; subst hj; exact rx.cell 0
                | succ j => simp at hj⟩) (by rw [List.length_take]; simp; omega) A3.fr.size
              have A4 := A3.apps1 ho hg
              have hl4 : (tn.take a ++ [x]).length = a + 1 := by rw [List.length_append, List.length_take, ← HNT2.out]; simp; omega
              have ho4 := A4.o1
              rw [hl4] at ho4
              obtain ⟨B5, b5, rfl, hb5⟩ := own_shape ho4
              have D4 := D3.grown hg (fun e => by have h1 := (A3.o1.lt _ e.symm).1; have h2 := HT9.out; omega)
              clear ho hg ho4 hl4 A3 D3
              refine wp_append_run (.tmp 67) (.tmp 72) 22 (by rfl) (by rfl) (by rfl) hr ?_
              refine hK.out _ _ ⟨A4.fr, fun _ => D4.cell 3, fun _ => trivial⟩ (fun hS => ?_)
              clear hK K hS hr
              try simp only [Act.put, List.setIfInBounds_toArray, List.set_cons_zero, List.set_cons_succ]
              refine wpG_ready (rs := [17]) (by kernel_rfl) (by simp) ?_
              refine RG.cons rfl rfl (fun K hK => ?_) RG.nil
              have hld : (tn.drop a).length = nt - a := by rw [List.length_drop, ← HNT2.out]
              obtain ⟨v3, wg, hr, ho, hg⟩ := append_names (w := wf) W9.heap.size (.slice B5 (a + 1) b5) _ _ A4.o1 _ (dn2 - a) (tn.drop a) (nv_drop (HTN.out _ A4.fr).1 a) (by rw [List.length_append, List.length_take, hld]; simp; omega) A4.fr.size
              have A5 := A4.apps1 ho hg
              rw [hld] at hr
              have hl5 : (tn.take a ++ [x] ++ tn.drop a) = insAt tn a x := by unfold insAt; simp
              rw [hl5] at A5
              have hl6 : (insAt tn a x).length = nt + 1 := by rw [insAt_len, ← HNT2.out]
              have ho5 := A5.o1
              rw [hl6] at ho5
              obtain ⟨B3, b3, rfl, hb3⟩ := own_shape ho5
              have D5 := D4.grown hg (fun e => by have h1 := (A4.o1.lt _ e.symm).1; have h2 := HT9.out; omega)
              clear ho hg hl5 hl6 ho5 hld A4 D4
              refine wp_append_run (.tmp 73) (.tmp 77) 22 (by rfl) (by rfl) (by rfl) hr ?_
              refine hK.out _ _ ⟨A5.fr, fun _ => D5.cell 3, fun _ => trivial⟩ (fun hS => ?_)
              clear hK K hr
              try simp only [Act.put, List.setIfInBounds_toArray, List.set_cons_zero, List.set_cons_succ]
              refine wpG_take0 (i := 18) (v := ?v15) rfl (by kernel_rfl) (by kernel_rfl) (by kernel_rfl) (by decide) (by decide) (fun _ _ _ h => h) hS (Or.inl ⟨by rfl, ?hy15⟩) ?rest15
              case hy15 => (intro w' hw; (try dsimp only at hw); have u0 := (hw.cell (p := ⟨w.heap.size + 1, 0, none⟩) HTB.out HT6.out).trans (HZ6.out 0); have u3 := (hw.cell (p := ⟨w.heap.size + 1, 3, none⟩) HTB.out HT6.out).trans (HZ6.out 3); have u4 := (hw.cell (p := ⟨w.heap.size + 1, 4, none⟩) HTB.out HT6.out).trans (HZ6.out 4); have k0 := (hw.cell (p := ⟨g0, o0 + i, none⟩) HG0.out.1 HG0.out.2).trans HC0.out; have k1 := (hw.cell (p := ⟨g, o + i * 5, none⟩) HG1.out.1 HG1.out.2).trans HC1.out.1; have k2 := (hw.cell (p := ⟨g, o + i * 5 + 1, none⟩) HG1.out.1 HG1.out.2).trans HC1.out.2.1; have k3 := (hw.cell (p := ⟨g, o + i * 5 + 2, none⟩) HG1.out.1 HG1.out.2).trans HC1.out.2.2.1; have k4 := (hw.cell (p := ⟨g, o + i * 5 + 3, none⟩) HG1.out.1 HG1.out.2).trans HC1.out.2.2.2.1; have k5 := (hw.cell (p := ⟨g, o + i * 5 + 4, none⟩) HG1.out.1 HG1.out.2).trans HC1.out.2.2.2.2; go_simp; try with_reducible rfl)
              replace hS := SG.set (i := 18) (by decide) (by decide) hS
              try simp only [Act.put, List.setIfInBounds_toArray, List.set_cons_zero, List.set_cons_succ]
              have A6 := A5.put HT9.out 3 (.slice B3 (nt + 1) b3)
              have T9 : RowB (wg.setCell ⟨wb.heap.size, 3, none⟩ (.slice B3 (nt + 1) b3)) wb.heap.size 25 (rzv (.slice B3 (nt + 1) b3) (.slice none 0 0)) := D5.put 3 _
              have yc := D5.cell
              have yt := D5.thaw
              clear A5 hS
              refine wpG_ready (rs := [19]) (by kernel_rfl) (by simp) ?_
              refine RG.cons rfl rfl (fun K hK => ?_) RG.nil
              go_simp
              refine hK.out _ _ ⟨A6.fr, fun h => absurd (h : true = false) (by decide), fun _ => trivial⟩ (fun hS => ?_)
              clear hK K hS yc yt D5
              try simp only [Act.put, List.setIfInBounds_toArray, List.set_cons_zero, List.set_cons_succ]
              refine wpG_done (by kernel_rfl) ?_ _
              obtain ⟨WX, hWX⟩ : ∃ WX, WX = wg.setCell ⟨wb.heap.size, 3, none⟩ (.slice B3 (nt + 1) b3) := ⟨_, rfl⟩
              rw [← hWX] at A6 T9 ⊢
              clear hWX
              go_wp2_with fail
              all_goals
                go_meet
                exact ⟨_, _, A6, T9⟩
            · have A2 := AD.alloc (.cells #[Value.string x] 9)
              have D2 := D9.alloc (.cells #[Value.string x] 9)
              have ry := RowB.new wd 9 #[Value.string x]
              have hyl := ry.lt
              go_simp
              refine hK.out _ _ ⟨A2.fr, fun _ => D2.cell 3, fun _ => trivial⟩ (fun hS => ?_)
              clear hK K AD D9 hS
              try simp only [Act.put, List.setIfInBounds_toArray, List.set_cons_zero, List.set_cons_succ]
              obtain ⟨we, hwe⟩ : ∃ we, we = wd.alloc (.cells #[Value.string x] 9) := ⟨_, rfl⟩
              rw [← hwe] at A2 D2 ry hyl ⊢
              clear hwe
              refine wpG_ready (rs := [6]) (by kernel_rfl) (by simp) ?_
              refine RG.cons rfl rfl (fun K hK => ?_) RG.nil
              have hli : (tn.take a).length = a := by rw [List.length_take, ← HNT2.out]; omega
              obtain ⟨v1, wa, hr, ho, hg⟩ := append_names (w := we) W9.heap.size (.slice none 0 0) _ _ A2.o1 Bn2 dn2 (tn.take a) (nv_src (HTN.out _ A2.fr).1 a) (by rw [hli]; simp; omega) A2.fr.size
              have A2x := A2.apps1 ho hg
              rw [hli] at hr
              have ho1 := A2x.o1
              rw [List.nil_append, hli] at ho1
              obtain ⟨B1, b1, rfl, hb1⟩ := own_shape ho1
              have rx := ry.grown hg (fun e => by cases e)
              have D2x := D2.grown hg (fun e => by cases e)
              clear ho hg ho1 D2 A2 hli
              rw [List.nil_append] at A2x
              refine wp_append_run (.tmp 62) (.tmp 66) 22 (by rfl) (by rfl) (by rfl) hr ?_
              refine hK.out _ _ ⟨A2x.fr, fun _ => D2x.cell 3, fun _ => trivial⟩ (fun hS => ?_)
              clear hK K hr ry hyl hS
              try simp only [Act.put, List.setIfInBounds_toArray, List.set_cons_zero, List.set_cons_succ]
              refine wpG_ready (rs := [12]) (by kernel_rfl) (by simp) ?_
              refine RG.cons rfl rfl (fun K hK => ?_) RG.nil
              obtain ⟨v2, wf, hr, ho, hg⟩ := append_names (w := wa) W9.heap.size (.slice B1 a b1) _ _ A2x.o1 (some ⟨wd.heap.size, 0, none⟩) 1 [x] (fun _ => ⟨_, _, rfl, fun j s hj => by
                cases j with
                | zero => simp at hj; subst hj; exact rx.cell 0
                | succ j => simp at hj⟩) (by rw [List.length_take]; simp; omega) A2x.fr.size
              have A4 := A2x.apps1 ho hg
              have hl4 : (tn.take a ++ [x]).length = a + 1 := by rw [List.length_append, List.length_take, ← HNT2.out]; simp; omega
              have ho4 := A4.o1
              rw [hl4] at ho4
              obtain ⟨B5, b5, rfl, hb5⟩ := own_shape ho4
              have D4 := D2x.grown hg (fun e => by have h1 := (A2x.o1.lt _ e.symm).1; have h2 := HT9.out; omega)
              clear ho hg ho4 hl4 A2x D2x
              refine wp_append_run (.tmp 67) (.tmp 72) 22 (by rfl) (by rfl) (by rfl) hr ?_
              refine hK.out _ _ ⟨A4.fr, fun _ => D4.cell 3, fun _ => trivial⟩ (fun hS => ?_)
              clear hK K hS hr
              try simp only [Act.put, List.setIfInBounds_toArray, List.set_cons_zero, List.set_cons_succ]
              refine wpG_ready (rs := [17]) (by kernel_rfl) (by simp) ?_
              refine RG.cons rfl rfl (fun K hK => ?_) RG.nil
              have hld : (tn.drop a).length = nt - a := by rw [List.length_drop, ← HNT2.out]
              obtain ⟨v3, wg, hr, ho, hg⟩ := append_names (w := wf) W9.heap.size (.slice B5 (a + 1) b5) _ _ A4.o1 _ (dn2 - a) (tn.drop a) (nv_drop (HTN.out _ A4.fr).1 a) (by rw [List.length_append, List.length_take, hld]; simp; omega) A4.fr.size
              have A5 := A4.apps1 ho hg
              rw [hld] at hr
              have hl5 : (tn.take a ++ [x] ++ tn.drop a) = insAt tn a x := by unfold insAt; simp
              rw [hl5] at A5
              have hl6 : (insAt tn a x).length = nt + 1 := by rw [insAt_len, ← HNT2.out]
              have ho5 := A5.o1
              rw [hl6] at ho5
              obtain ⟨B3, b3, rfl, hb3⟩ := own_shape ho5
              have D5 := D4.grown hg (fun e => by have h1 := (A4.o1.lt _ e.symm).1; have h2 := HT9.out; omega)
              clear ho hg hl5 hl6 ho5 hld A4 D4
              refine wp_append_run (.tmp 73) (.tmp 77) 22 (by rfl) (by rfl) (by rfl) hr ?_
              refine hK.out _ _ ⟨A5.fr, fun _ => D5.cell 3, fun _ => trivial⟩ (fun hS => ?_)
              clear hK K hr
              try simp only [Act.put, List.setIfInBounds_toArray, List.set_cons_zero, List.set_cons_succ]
              refine wpG_take0 (i := 18) (v := ?v16) rfl (by kernel_rfl) (by kernel_rfl) (by kernel_rfl) (by decide) (by decide) (fun _ _ _ h => h) hS (Or.inl ⟨by rfl, ?hy16⟩) ?rest16
              case hy16 => (intro w' hw; (try dsimp only at hw); have u0 := (hw.cell (p := ⟨w.heap.size + 1, 0, none⟩) HTB.out HT6.out).trans (HZ6.out 0); have u3 := (hw.cell (p := ⟨w.heap.size + 1, 3, none⟩) HTB.out HT6.out).trans (HZ6.out 3); have u4 := (hw.cell (p := ⟨w.heap.size + 1, 4, none⟩) HTB.out HT6.out).trans (HZ6.out 4); have k0 := (hw.cell (p := ⟨g0, o0 + i, none⟩) HG0.out.1 HG0.out.2).trans HC0.out; have k1 := (hw.cell (p := ⟨g, o + i * 5, none⟩) HG1.out.1 HG1.out.2).trans HC1.out.1; have k2 := (hw.cell (p := ⟨g, o + i * 5 + 1, none⟩) HG1.out.1 HG1.out.2).trans HC1.out.2.1; have k3 := (hw.cell (p := ⟨g, o + i * 5 + 2, none⟩) HG1.out.1 HG1.out.2).trans HC1.out.2.2.1; have k4 := (hw.cell (p := ⟨g, o + i * 5 + 3, none⟩) HG1.out.1 HG1.out.2).trans HC1.out.2.2.2.1; have k5 := (hw.cell (p := ⟨g, o + i * 5 + 4, none⟩) HG1.out.1 HG1.out.2).trans HC1.out.2.2.2.2; go_simp; try with_reducible rfl)
              replace hS := SG.set (i := 18) (by decide) (by decide) hS
              try simp only [Act.put, List.setIfInBounds_toArray, List.set_cons_zero, List.set_cons_succ]
              have A6 := A5.put HT9.out 3 (.slice B3 (nt + 1) b3)
              have T9 : RowB (wg.setCell ⟨wb.heap.size, 3, none⟩ (.slice B3 (nt + 1) b3)) wb.heap.size 25 (rzv (.slice B3 (nt + 1) b3) (.slice none 0 0)) := D5.put 3 _
              have yc := D5.cell
              have yt := D5.thaw
              clear A5 hS
              refine wpG_ready (rs := [19]) (by kernel_rfl) (by simp) ?_
              refine RG.cons rfl rfl (fun K hK => ?_) RG.nil
              go_simp
              refine hK.out _ _ ⟨A6.fr, fun h => absurd (h : true = false) (by decide), fun _ => trivial⟩ (fun hS => ?_)
              clear hK K hS yc yt D5
              try simp only [Act.put, List.setIfInBounds_toArray, List.set_cons_zero, List.set_cons_succ]
              refine wpG_done (by kernel_rfl) ?_ _
              obtain ⟨WX, hWX⟩ : ∃ WX, WX = wg.setCell ⟨wb.heap.size, 3, none⟩ (.slice B3 (nt + 1) b3) := ⟨_, rfl⟩
              rw [← hWX] at A6 T9 ⊢
              clear hWX
              go_wp2_with fail
              all_goals
                go_meet
                exact ⟨_, _, A6, T9⟩
          case rest =>
          have HCT := Lib.hid hcut.out
          clear hcut T9 A0
          obtain ⟨B3, b3, A1, T9⟩ := HCT.out
          clear HCT
          obtain ⟨WC0, hWC⟩ : ∃ WB, WB = wc := ⟨_, rfl⟩
          rw [← hWC] at A1 T9 ⊢
          clear hWC
          go_upto_region 14 with fail
          go_cut [98] from 80 to 97 (fun s98 wx => Hid (∃ (B6 : Option Addr) (b6 : Nat) (cs : List Value), RU W9 wx wb.heap.size Pq (.slice B3 (nt + 1) b3) (.slice B6 (mt + 1) b6) (insAt tn a x) (insAt tp a (.mk hp np pp)) cs ∧ RowB wx wb.heap.size 25 (rzv (.slice B3 (nt + 1) b3) (.slice B6 (mt + 1) b6))))
          case first =>
            refine wp_region_G (S := SG (fun w' => Fr wb.heap.size W9.heap.size W9 w') 19 (fun w' => w'.cell? ⟨wb.heap.size, 4, none⟩ = some (.slice none 0 0)) 99 (fun _ => True)) (by kernel_rfl) ⟨A1.drew.fr, fun _ => T9.cell 4, fun _ => trivial⟩ (fun hS => ?_)
            have AD := A1.drew
            have D9 : RowB WC0.drew wb.heap.size 25 (rzv (.slice B3 (nt + 1) b3) (.slice none 0 0)) := T9
            obtain ⟨wd, hwd⟩ : ∃ wd, wd = WC0.drew := ⟨_, rfl⟩
            rw [← hwd] at hS AD D9 ⊢
            clear hwd T9 A1
            refine wpG_take0 (i := 0) (v := ?v17) rfl (by kernel_rfl) (by kernel_rfl) (by kernel_rfl) (by decide) (by decide) (fun _ _ _ h => h) hS (Or.inl ⟨by rfl, ?hy17⟩) ?rest17
            case hy17 => (intro w' hw; (try dsimp only at hw); have u0 := (hw.cell (p := ⟨w.heap.size + 1, 0, none⟩) HTB.out HT6.out).trans (HZ6.out 0); have u3 := (hw.cell (p := ⟨w.heap.size + 1, 3, none⟩) HTB.out HT6.out).trans (HZ6.out 3); have u4 := (hw.cell (p := ⟨w.heap.size + 1, 4, none⟩) HTB.out HT6.out).trans (HZ6.out 4); have k0 := (hw.cell (p := ⟨g0, o0 + i, none⟩) HG0.out.1 HG0.out.2).trans HC0.out; have k1 := (hw.cell (p := ⟨g, o + i * 5, none⟩) HG1.out.1 HG1.out.2).trans HC1.out.1; have k2 := (hw.cell (p := ⟨g, o + i * 5 + 1, none⟩) HG1.out.1 HG1.out.2).trans HC1.out.2.1; have k3 := (hw.cell (p := ⟨g, o + i * 5 + 2, none⟩) HG1.out.1 HG1.out.2).trans HC1.out.2.2.1; have k4 := (hw.cell (p := ⟨g, o + i * 5 + 3, none⟩) HG1.out.1 HG1.out.2).trans HC1.out.2.2.2.1; have k5 := (hw.cell (p := ⟨g, o + i * 5 + 4, none⟩) HG1.out.1 HG1.out.2).trans HC1.out.2.2.2.2; go_simp; try with_reducible rfl)
            replace hS := SG.set (i := 0) (by decide) (by decide) hS
            try simp only [Act.put, List.setIfInBounds_toArray, List.set_cons_zero, List.set_cons_succ]
            refine wpG_take1 (i := 1) (v := ?v18) rfl (by kernel_rfl) (by kernel_rfl) (by kernel_rfl) (by decide) (by decide) (by kernel_rfl) (by kernel_rfl) (fun _ _ _ h => h) hS (Or.inl ⟨by rfl, ?hy18⟩) ?rest18
            case hy18 => (intro w' hw; (try dsimp only at hw); obtain ⟨_, u9⟩ := hw; go_simp; try with_reducible rfl)
            replace hS := SG.set (i := 1) (by decide) (by decide) hS
            try simp only [Act.put, List.setIfInBounds_toArray, List.set_cons_zero, List.set_cons_succ]
            refine wpG_take0 (i := 2) (v := ?v19) rfl (by kernel_rfl) (by kernel_rfl) (by kernel_rfl) (by decide) (by decide) (fun _ _ _ h => h) hS (Or.inl ⟨by rfl, ?hy19⟩) ?rest19
            case hy19 => (intro w' hw; (try dsimp only at hw); have u0 := (hw.cell (p := ⟨w.heap.size + 1, 0, none⟩) HTB.out HT6.out).trans (HZ6.out 0); have u3 := (hw.cell (p := ⟨w.heap.size + 1, 3, none⟩) HTB.out HT6.out).trans (HZ6.out 3); have u4 := (hw.cell (p := ⟨w.heap.size + 1, 4, none⟩) HTB.out HT6.out).trans (HZ6.out 4); have k0 := (hw.cell (p := ⟨g0, o0 + i, none⟩) HG0.out.1 HG0.out.2).trans HC0.out; have k1 := (hw.cell (p := ⟨g, o + i * 5, none⟩) HG1.out.1 HG1.out.2).trans HC1.out.1; have k2 := (hw.cell (p := ⟨g, o + i * 5 + 1, none⟩) HG1.out.1 HG1.out.2).trans HC1.out.2.1; have k3 := (hw.cell (p := ⟨g, o + i * 5 + 2, none⟩) HG1.out.1 HG1.out.2).trans HC1.out.2.2.1; have k4 := (hw.cell (p := ⟨g, o + i * 5 + 3, none⟩) HG1.out.1 HG1.out.2).trans HC1.out.2.2.2.1; have k5 := (hw.cell (p := ⟨g, o + i * 5 + 4, none⟩) HG1.out.1 HG1.out.2).trans HC1.out.2.2.2.2; go_simp; try with_reducible rfl)
            replace hS := SG.set (i := 2) (by decide) (by decide) hS
            try simp only [Act.put, List.setIfInBounds_toArray, List.set_cons_zero, List.set_cons_succ]
            refine wpG_take0 (i := 3) (v := ?v20) rfl (by kernel_rfl) (by kernel_rfl) (by kernel_rfl) (by decide) (by decide) (fun _ _ _ h => h) hS (Or.inl ⟨by rfl, ?hy20⟩) ?rest20
            case hy20 => (intro w' hw; (try dsimp only at hw); have u0 := (hw.cell (p := ⟨w.heap.size + 1, 0, none⟩) HTB.out HT6.out).trans (HZ6.out 0); have u3 := (hw.cell (p := ⟨w.heap.size + 1, 3, none⟩) HTB.out HT6.out).trans (HZ6.out 3); have u4 := (hw.cell (p := ⟨w.heap.size + 1, 4, none⟩) HTB.out HT6.out).trans (HZ6.out 4); have k0 := (hw.cell (p := ⟨g0, o0 + i, none⟩) HG0.out.1 HG0.out.2).trans HC0.out; have k1 := (hw.cell (p := ⟨g, o + i * 5, none⟩) HG1.out.1 HG1.out.2).trans HC1.out.1; have k2 := (hw.cell (p := ⟨g, o + i * 5 + 1, none⟩) HG1.out.1 HG1.out.2).trans HC1.out.2.1; have k3 := (hw.cell (p := ⟨g, o + i * 5 + 2, none⟩) HG1.out.1 HG1.out.2).trans HC1.out.2.2.1; have k4 := (hw.cell (p := ⟨g, o + i * 5 + 3, none⟩) HG1.out.1 HG1.out.2).trans HC1.out.2.2.2.1; have k5 := (hw.cell (p := ⟨g, o + i * 5 + 4, none⟩) HG1.out.1 HG1.out.2).trans HC1.out.2.2.2.2; go_simp; try with_reducible rfl)
            replace hS := SG.set (i := 3) (by decide) (by decide) hS
            try simp only [Act.put, List.setIfInBounds_toArray, List.set_cons_zero, List.set_cons_succ]
            refine wpG_take0 (i := 4) (v := ?v21) rfl (by kernel_rfl) (by kernel_rfl) (by kernel_rfl) (by decide) (by decide) (fun _ _ _ h => h) hS (Or.inl ⟨by rfl, ?hy21⟩) ?rest21
            case hy21 => (intro w' hw; (try dsimp only at hw); have u0 := (hw.cell (p := ⟨w.heap.size + 1, 0, none⟩) HTB.out HT6.out).trans (HZ6.out 0); have u3 := (hw.cell (p := ⟨w.heap.size + 1, 3, none⟩) HTB.out HT6.out).trans (HZ6.out 3); have u4 := (hw.cell (p := ⟨w.heap.size + 1, 4, none⟩) HTB.out HT6.out).trans (HZ6.out 4); have k0 := (hw.cell (p := ⟨g0, o0 + i, none⟩) HG0.out.1 HG0.out.2).trans HC0.out; have k1 := (hw.cell (p := ⟨g, o + i * 5, none⟩) HG1.out.1 HG1.out.2).trans HC1.out.1; have k2 := (hw.cell (p := ⟨g, o + i * 5 + 1, none⟩) HG1.out.1 HG1.out.2).trans HC1.out.2.1; have k3 := (hw.cell (p := ⟨g, o + i * 5 + 2, none⟩) HG1.out.1 HG1.out.2).trans HC1.out.2.2.1; have k4 := (hw.cell (p := ⟨g, o + i * 5 + 3, none⟩) HG1.out.1 HG1.out.2).trans HC1.out.2.2.2.1; have k5 := (hw.cell (p := ⟨g, o + i * 5 + 4, none⟩) HG1.out.1 HG1.out.2).trans HC1.out.2.2.2.2; go_simp; try with_reducible rfl)
            replace hS := SG.set (i := 4) (by decide) (by decide) hS
            try simp only [Act.put, List.setIfInBounds_toArray, List.set_cons_zero, List.set_cons_succ]
            refine wpG_take0 (i := 5) (v := ?v22) rfl (by kernel_rfl) (by kernel_rfl) (by kernel_rfl) (by decide) (by decide) (fun _ _ _ h => h) hS (Or.inl ⟨by rfl, ?hy22⟩) ?rest22
            case hy22 => (intro w' hw; (try dsimp only at hw); have u0 := (hw.cell (p := ⟨w.heap.size + 1, 0, none⟩) HTB.out HT6.out).trans (HZ6.out 0); have u3 := (hw.cell (p := ⟨w.heap.size + 1, 3, none⟩) HTB.out HT6.out).trans (HZ6.out 3); have u4 := (hw.cell (p := ⟨w.heap.size + 1, 4, none⟩) HTB.out HT6.out).trans (HZ6.out 4); have k0 := (hw.cell (p := ⟨g0, o0 + i, none⟩) HG0.out.1 HG0.out.2).trans HC0.out; have k1 := (hw.cell (p := ⟨g, o + i * 5, none⟩) HG1.out.1 HG1.out.2).trans HC1.out.1; have k2 := (hw.cell (p := ⟨g, o + i * 5 + 1, none⟩) HG1.out.1 HG1.out.2).trans HC1.out.2.1; have k3 := (hw.cell (p := ⟨g, o + i * 5 + 2, none⟩) HG1.out.1 HG1.out.2).trans HC1.out.2.2.1; have k4 := (hw.cell (p := ⟨g, o + i * 5 + 3, none⟩) HG1.out.1 HG1.out.2).trans HC1.out.2.2.2.1; have k5 := (hw.cell (p := ⟨g, o + i * 5 + 4, none⟩) HG1.out.1 HG1.out.2).trans HC1.out.2.2.2.2; go_simp; try with_reducible rfl)
            replace hS := SG.set (i := 5) (by decide) (by decide) hS
            try simp only [Act.put, List.setIfInBounds_toArray, List.set_cons_zero, List.set_cons_succ]
            refine wpG_take0 (i := 7) (v := ?v23) rfl (by kernel_rfl) (by kernel_rfl) (by kernel_rfl) (by decide) (by decide) (fun _ _ _ h => h) hS (Or.inl ⟨by rfl, ?hy23⟩) ?rest23
            case hy23 => (intro w' hw; (try dsimp only at hw); have u0 := (hw.cell (p := ⟨w.heap.size + 1, 0, none⟩) HTB.out HT6.out).trans (HZ6.out 0); have u3 := (hw.cell (p := ⟨w.heap.size + 1, 3, none⟩) HTB.out HT6.out).trans (HZ6.out 3); have u4 := (hw.cell (p := ⟨w.heap.size + 1, 4, none⟩) HTB.out HT6.out).trans (HZ6.out 4); have k0 := (hw.cell (p := ⟨g0, o0 + i, none⟩) HG0.out.1 HG0.out.2).trans HC0.out; have k1 := (hw.cell (p := ⟨g, o + i * 5, none⟩) HG1.out.1 HG1.out.2).trans HC1.out.1; have k2 := (hw.cell (p := ⟨g, o + i * 5 + 1, none⟩) HG1.out.1 HG1.out.2).trans HC1.out.2.1; have k3 := (hw.cell (p := ⟨g, o + i * 5 + 2, none⟩) HG1.out.1 HG1.out.2).trans HC1.out.2.2.1; have k4 := (hw.cell (p := ⟨g, o + i * 5 + 3, none⟩) HG1.out.1 HG1.out.2).trans HC1.out.2.2.2.1; have k5 := (hw.cell (p := ⟨g, o + i * 5 + 4, none⟩) HG1.out.1 HG1.out.2).trans HC1.out.2.2.2.2; go_simp; try with_reducible rfl)
            replace hS := SG.set (i := 7) (by decide) (by decide) hS
            try simp only [Act.put, List.setIfInBounds_toArray, List.set_cons_zero, List.set_cons_succ]
            refine wpG_take0 (i := 8) (v := ?v24) rfl (by kernel_rfl) (by kernel_rfl) (by kernel_rfl) (by decide) (by decide) (fun _ _ _ h => h) hS (Or.inl ⟨by rfl, ?hy24⟩) ?rest24
            case hy24 => (intro w' hw; (try dsimp only at hw); have u0 := (hw.cell (p := ⟨w.heap.size + 1, 0, none⟩) HTB.out HT6.out).trans (HZ6.out 0); have u3 := (hw.cell (p := ⟨w.heap.size + 1, 3, none⟩) HTB.out HT6.out).trans (HZ6.out 3); have u4 := (hw.cell (p := ⟨w.heap.size + 1, 4, none⟩) HTB.out HT6.out).trans (HZ6.out 4); have k0 := (hw.cell (p := ⟨g0, o0 + i, none⟩) HG0.out.1 HG0.out.2).trans HC0.out; have k1 := (hw.cell (p := ⟨g, o + i * 5, none⟩) HG1.out.1 HG1.out.2).trans HC1.out.1; have k2 := (hw.cell (p := ⟨g, o + i * 5 + 1, none⟩) HG1.out.1 HG1.out.2).trans HC1.out.2.1; have k3 := (hw.cell (p := ⟨g, o + i * 5 + 2, none⟩) HG1.out.1 HG1.out.2).trans HC1.out.2.2.1; have k4 := (hw.cell (p := ⟨g, o + i * 5 + 3, none⟩) HG1.out.1 HG1.out.2).trans HC1.out.2.2.2.1; have k5 := (hw.cell (p := ⟨g, o + i * 5 + 4, none⟩) HG1.out.1 HG1.out.2).trans HC1.out.2.2.2.2; go_simp; try with_reducible rfl)
            replace hS := SG.set (i := 8) (by decide) (by decide) hS
            try simp only [Act.put, List.setIfInBounds_toArray, List.set_cons_zero, List.set_cons_succ]
            refine wpG_take0 (i := 9) (v := ?v25) rfl (by kernel_rfl) (by kernel_rfl) (by kernel_rfl) (by decide) (by decide) (fun _ _ _ h => h) hS (Or.inl ⟨by rfl, ?hy25⟩) ?rest25
            case hy25 => (intro w' hw; (try dsimp only at hw); have u0 := (hw.cell (p := ⟨w.heap.size + 1, 0, none⟩) HTB.out HT6.out).trans (HZ6.out 0); have u3 := (hw.cell (p := ⟨w.heap.size + 1, 3, none⟩) HTB.out HT6.out).trans (HZ6.out 3); have u4 := (hw.cell (p := ⟨w.heap.size + 1, 4, none⟩) HTB.out HT6.out).trans (HZ6.out 4); have k0 := (hw.cell (p := ⟨g0, o0 + i, none⟩) HG0.out.1 HG0.out.2).trans HC0.out; have k1 := (hw.cell (p := ⟨g, o + i * 5, none⟩) HG1.out.1 HG1.out.2).trans HC1.out.1; have k2 := (hw.cell (p := ⟨g, o + i * 5 + 1, none⟩) HG1.out.1 HG1.out.2).trans HC1.out.2.1; have k3 := (hw.cell (p := ⟨g, o + i * 5 + 2, none⟩) HG1.out.1 HG1.out.2).trans HC1.out.2.2.1; have k4 := (hw.cell (p := ⟨g, o + i * 5 + 3, none⟩) HG1.out.1 HG1.out.2).trans HC1.out.2.2.2.1; have k5 := (hw.cell (p := ⟨g, o + i * 5 + 4, none⟩) HG1.out.1 HG1.out.2).trans HC1.out.2.2.2.2; go_simp; try with_reducible rfl)
            replace hS := SG.set (i := 9) (by decide) (by decide) hS
            try simp only [Act.put, List.setIfInBounds_toArray, List.set_cons_zero, List.set_cons_succ]
            refine wpG_take0 (i := 10) (v := ?v26) rfl (by kernel_rfl) (by kernel_rfl) (by kernel_rfl) (by decide) (by decide) (fun _ _ _ h => h) hS (Or.inl ⟨by rfl, ?hy26⟩) ?rest26
            case hy26 => (intro w' hw; (try dsimp only at hw); have u0 := (hw.cell (p := ⟨w.heap.size + 1, 0, none⟩) HTB.out HT6.out).trans (HZ6.out 0); have u3 := (hw.cell (p := ⟨w.heap.size + 1, 3, none⟩) HTB.out HT6.out).trans (HZ6.out 3); have u4 := (hw.cell (p := ⟨w.heap.size + 1, 4, none⟩) HTB.out HT6.out).trans (HZ6.out 4); have k0 := (hw.cell (p := ⟨g0, o0 + i, none⟩) HG0.out.1 HG0.out.2).trans HC0.out; have k1 := (hw.cell (p := ⟨g, o + i * 5, none⟩) HG1.out.1 HG1.out.2).trans HC1.out.1; have k2 := (hw.cell (p := ⟨g, o + i * 5 + 1, none⟩) HG1.out.1 HG1.out.2).trans HC1.out.2.1; have k3 := (hw.cell (p := ⟨g, o + i * 5 + 2, none⟩) HG1.out.1 HG1.out.2).trans HC1.out.2.2.1; have k4 := (hw.cell (p := ⟨g, o + i * 5 + 3, none⟩) HG1.out.1 HG1.out.2).trans HC1.out.2.2.2.1; have k5 := (hw.cell (p := ⟨g, o + i * 5 + 4, none⟩) HG1.out.1 HG1.out.2).trans HC1.out.2.2.2.2; go_simp; try with_reducible rfl)
            replace hS := SG.set (i := 10) (by decide) (by decide) hS
            try simp only [Act.put, List.setIfInBounds_toArray, List.set_cons_zero, List.set_cons_succ]
            refine wpG_take0 (i := 13) (v := ?v27) rfl (by kernel_rfl) (by kernel_rfl) (by kernel_rfl) (by decide) (by decide) (fun _ _ _ h => h) hS (Or.inl ⟨by rfl, ?hy27⟩) ?rest27
            case hy27 => (intro w' hw; (try dsimp only at hw); have u0 := (hw.cell (p := ⟨w.heap.size + 1, 0, none⟩) HTB.out HT6.out).trans (HZ6.out 0); have u3 := (hw.cell (p := ⟨w.heap.size + 1, 3, none⟩) HTB.out HT6.out).trans (HZ6.out 3); have u4 := (hw.cell (p := ⟨w.heap.size + 1, 4, none⟩) HTB.out HT6.out).trans (HZ6.out 4); have k0 := (hw.cell (p := ⟨g0, o0 + i, none⟩) HG0.out.1 HG0.out.2).trans HC0.out; have k1 := (hw.cell (p := ⟨g, o + i * 5, none⟩) HG1.out.1 HG1.out.2).trans HC1.out.1; have k2 := (hw.cell (p := ⟨g, o + i * 5 + 1, none⟩) HG1.out.1 HG1.out.2).trans HC1.out.2.1; have k3 := (hw.cell (p := ⟨g, o + i * 5 + 2, none⟩) HG1.out.1 HG1.out.2).trans HC1.out.2.2.1; have k4 := (hw.cell (p := ⟨g, o + i * 5 + 3, none⟩) HG1.out.1 HG1.out.2).trans HC1.out.2.2.2.1; have k5 := (hw.cell (p := ⟨g, o + i * 5 + 4, none⟩) HG1.out.1 HG1.out.2).trans HC1.out.2.2.2.2; go_simp; try with_reducible rfl)
            replace hS := SG.set (i := 13) (by decide) (by decide) hS
            try simp only [Act.put, List.setIfInBounds_toArray, List.set_cons_zero, List.set_cons_succ]
            refine wpG_take0 (i := 14) (v := ?v28) rfl (by kernel_rfl) (by kernel_rfl) (by kernel_rfl) (by decide) (by decide) (fun _ _ _ h => h) hS (Or.inl ⟨by rfl, ?hy28⟩) ?rest28
            case hy28 => (intro w' hw; (try dsimp only at hw); have u0 := (hw.cell (p := ⟨w.heap.size + 1, 0, none⟩) HTB.out HT6.out).trans (HZ6.out 0); have u3 := (hw.cell (p := ⟨w.heap.size + 1, 3, none⟩) HTB.out HT6.out).trans (HZ6.out 3); have u4 := (hw.cell (p := ⟨w.heap.size + 1, 4, none⟩) HTB.out HT6.out).trans (HZ6.out 4); have k0 := (hw.cell (p := ⟨g0, o0 + i, none⟩) HG0.out.1 HG0.out.2).trans HC0.out; have k1 := (hw.cell (p := ⟨g, o + i * 5, none⟩) HG1.out.1 HG1.out.2).trans HC1.out.1; have k2 := (hw.cell (p := ⟨g, o + i * 5 + 1, none⟩) HG1.out.1 HG1.out.2).trans HC1.out.2.1; have k3 := (hw.cell (p := ⟨g, o + i * 5 + 2, none⟩) HG1.out.1 HG1.out.2).trans HC1.out.2.2.1; have k4 := (hw.cell (p := ⟨g, o + i * 5 + 3, none⟩) HG1.out.1 HG1.out.2).trans HC1.out.2.2.2.1; have k5 := (hw.cell (p := ⟨g, o + i * 5 + 4, none⟩) HG1.out.1 HG1.out.2).trans HC1.out.2.2.2.2; go_simp; try with_reducible rfl)
            replace hS := SG.set (i := 14) (by decide) (by decide) hS
            try simp only [Act.put, List.setIfInBounds_toArray, List.set_cons_zero, List.set_cons_succ]
            refine wpG_take0 (i := 15) (v := ?v29) rfl (by kernel_rfl) (by kernel_rfl) (by kernel_rfl) (by decide) (by decide) (fun _ _ _ h => h) hS (Or.inl ⟨by rfl, ?hy29⟩) ?rest29
            case hy29 => (intro w' hw; (try dsimp only at hw); have u0 := (hw.cell (p := ⟨w.heap.size + 1, 0, none⟩) HTB.out HT6.out).trans (HZ6.out 0); have u3 := (hw.cell (p := ⟨w.heap.size + 1, 3, none⟩) HTB.out HT6.out).trans (HZ6.out 3); have u4 := (hw.cell (p := ⟨w.heap.size + 1, 4, none⟩) HTB.out HT6.out).trans (HZ6.out 4); have k0 := (hw.cell (p := ⟨g0, o0 + i, none⟩) HG0.out.1 HG0.out.2).trans HC0.out; have k1 := (hw.cell (p := ⟨g, o + i * 5, none⟩) HG1.out.1 HG1.out.2).trans HC1.out.1; have k2 := (hw.cell (p := ⟨g, o + i * 5 + 1, none⟩) HG1.out.1 HG1.out.2).trans HC1.out.2.1; have k3 := (hw.cell (p := ⟨g, o + i * 5 + 2, none⟩) HG1.out.1 HG1.out.2).trans HC1.out.2.2.1; have k4 := (hw.cell (p := ⟨g, o + i * 5 + 3, none⟩) HG1.out.1 HG1.out.2).trans HC1.out.2.2.2.1; have k5 := (hw.cell (p := ⟨g, o + i * 5 + 4, none⟩) HG1.out.1 HG1.out.2).trans HC1.out.2.2.2.2; go_simp; try with_reducible rfl)
            replace hS := SG.set (i := 15) (by decide) (by decide) hS
            try simp only [Act.put, List.setIfInBounds_toArray, List.set_cons_zero, List.set_cons_succ]
            refine wpG_take0 (i := 16) (v := ?v30) rfl (by kernel_rfl) (by kernel_rfl) (by kernel_rfl) (by decide) (by decide) (fun _ _ _ h => h) hS (Or.inl ⟨by rfl, ?hy30⟩) ?rest30
            case hy30 => (intro w' hw; (try dsimp only at hw); have u0 := (hw.cell (p := ⟨w.heap.size + 1, 0, none⟩) HTB.out HT6.out).trans (HZ6.out 0); have u3 := (hw.cell (p := ⟨w.heap.size + 1, 3, none⟩) HTB.out HT6.out).trans (HZ6.out 3); have u4 := (hw.cell (p := ⟨w.heap.size + 1, 4, none⟩) HTB.out HT6.out).trans (HZ6.out 4); have k0 := (hw.cell (p := ⟨g0, o0 + i, none⟩) HG0.out.1 HG0.out.2).trans HC0.out; have k1 := (hw.cell (p := ⟨g, o + i * 5, none⟩) HG1.out.1 HG1.out.2).trans HC1.out.1; have k2 := (hw.cell (p := ⟨g, o + i * 5 + 1, none⟩) HG1.out.1 HG1.out.2).trans HC1.out.2.1; have k3 := (hw.cell (p := ⟨g, o + i * 5 + 2, none⟩) HG1.out.1 HG1.out.2).trans HC1.out.2.2.1; have k4 := (hw.cell (p := ⟨g, o + i * 5 + 3, none⟩) HG1.out.1 HG1.out.2).trans HC1.out.2.2.2.1; have k5 := (hw.cell (p := ⟨g, o + i * 5 + 4, none⟩) HG1.out.1 HG1.out.2).trans HC1.out.2.2.2.2; go_simp; try with_reducible rfl)
            replace hS := SG.set (i := 16) (by decide) (by decide) hS
            try simp only [Act.put, List.setIfInBounds_toArray, List.set_cons_zero, List.set_cons_succ]
            clear hS
            refine wpG_ready (rs := [6, 11]) (by kernel_rfl) (by simp) ?_
            refine RG.cons rfl rfl (fun K hK => ?_) (RG.cons rfl rfl (fun K hK => ?_) RG.nil)
            · obtain ⟨ck, tck, lck, ock, sck⟩ := tv_src HPP.out (HTN.out _ (Fr.refl _ _ _)).2 AD.fr a HAM.out
              obtain ⟨v1, wa, hr, ho, hg⟩ := append_vls (w := wd) W9.heap.size (.slice none 0 0) _ _ AD.o2 B2 a d2 ck lck sck ock (by simp; omega) AD.fr.size
              have hlt : (tp.take a).length = a := by rw [List.length_take]; have := HAM.out; omega
              have ADx := AD.apps2 (ts := tp.take a) (by rw [hlt]; exact ho) hg (VL.keep (Nat.le_refl _) (fun g hg _ => ⟨rfl, hg, HPP.out g hg⟩) _ _ tck)
              have ho7 := ADx.o2
              rw [List.nil_append, hlt] at ho7
              obtain ⟨B1, b1, rfl, hb1⟩ := own_shape ho7
              have D9x := D9.grown hg (fun e => by cases e)
              clear ho hg ho7 D9 AD sck hlt
              rw [List.nil_append] at ADx
              refine wp_append_run (.tmp 81) (.tmp 85) 23 (by rfl) (by rfl) (by rfl) hr ?_
              refine hK.out _ _ ⟨ADx.fr, fun _ => D9x.cell 4, fun _ => trivial⟩ (fun hS => ?_)
              clear hK K hr hS
              try simp only [Act.put, List.setIfInBounds_toArray, List.set_cons_zero, List.set_cons_succ]
              refine wpG_ready (rs := [11]) (by kernel_rfl) (by simp) ?_
              refine RG.cons rfl rfl (fun K hK => ?_) RG.nil
              have A3 := ADx.alloc (.cells (yv hp En np.length en E pp.length e3) 25)
              have D3 := D9x.alloc (.cells (yv hp En np.length en E pp.length e3) 25)
              have rx := RowB.new wa 25 (yv hp En np.length en E pp.length e3)
              go_simp
              refine hK.out _ _ ⟨A3.fr, fun _ => D3.cell 4, fun _ => trivial⟩ (fun hS => ?_)
              clear hK K hS ADx D9x
              try simp only [Act.put, List.setIfInBounds_toArray, List.set_cons_zero, List.set_cons_succ]
              obtain ⟨we, hwe⟩ : ∃ we, we = wa.alloc (.cells (yv hp En np.length en E pp.length e3) 25) := ⟨_, rfl⟩
              rw [← hwe] at A3 D3 rx ⊢
              clear hwe
              refine wpG_ready (rs := [12]) (by kernel_rfl) (by simp) ?_
              refine RG.cons rfl rfl (fun K hK => ?_) RG.nil
              have htp : VL W9 Pq [Vl.mk hp np pp] (vcs (Vl.mk hp np pp) En en E e3) := VL.one HTI.out
              obtain ⟨v2, wf, hr, ho, hg⟩ := append_vls (w := we) W9.heap.size (.slice B1 a b1) _ _ A3.o2 (some ⟨wa.heap.size, 0, none⟩) 1 1 (vcs (Vl.mk hp np pp) En en E e3) rfl (fun _ => ⟨_, _, rfl, fun j u hj => by rw [Nat.zero_add, rx.cell, ← Array.getElem?_toList]; exact hj⟩) (VL.cell1 _ _ htp) (by rw [List.length_take]; have := HNTB.out; omega) A3.fr.size
              have A4 := A3.apps2 (ts := [Vl.mk hp np pp]) ho hg (VL.keep (Nat.le_refl _) (fun g hg _ => ⟨rfl, hg, HPP.out g hg⟩) _ _ htp)
              have hl4 : (tp.take a ++ [Vl.mk hp np pp]).length = a + 1 := by rw [List.length_append, List.length_take]; have := HAM.out; simp; omega
              have ho4 := A4.o2
              rw [hl4] at ho4
              obtain ⟨B5, b5, rfl, hb5⟩ := own_shape ho4
              have D4 := D3.grown hg (fun e => by have h1 := (A3.o2.lt _ e.symm).1; have h2 := HT9.out; omega)
              clear ho hg ho4 A3 D3 htp
              refine wp_append_run (.tmp 86) (.tmp 91) 23 (by rfl) (by rfl) (by rfl) hr ?_
              refine hK.out _ _ ⟨A4.fr, fun _ => D4.cell 4, fun _ => trivial⟩ (fun hS => ?_)
              clear hK K hS hr
              try simp only [Act.put, List.setIfInBounds_toArray, List.set_cons_zero, List.set_cons_succ]
              refine wpG_ready (rs := [17]) (by kernel_rfl) (by simp) ?_
              refine RG.cons rfl rfl (fun K hK => ?_) RG.nil
              obtain ⟨cd, tcd, lcd, ocd, scd⟩ := tv_dr HPP.out (HTN.out _ (Fr.refl _ _ _)).2 A4.fr a HAM.out
              rw [← HMT.out] at lcd scd
              obtain ⟨v3, wg, hr, ho, hg⟩ := append_vls (w := wf) W9.heap.size (.slice B5 (a + 1) b5) _ _ A4.o2 _ (mt - a) (d2 - a) cd lcd scd ocd (by rw [hl4]; have := HNTB.out; omega) A4.fr.size
              have hld : (tp.drop a).length = mt - a := by rw [List.length_drop, ← HMT.out]
              have A5 := A4.apps2 (ts := tp.drop a) (by rw [hld]; exact ho) hg (VL.keep (Nat.le_refl _) (fun g hg _ => ⟨rfl, hg, HPP.out g hg⟩) _ _ tcd)
              have hl5 : (tp.take a ++ [Vl.mk hp np pp] ++ tp.drop a) = insAt tp a (Vl.mk hp np pp) := by unfold insAt; simp
              rw [hl5] at A5
              have hl6 : (insAt tp a (Vl.mk hp np pp)).length = mt + 1 := by rw [insAt_len, ← HMT.out]
              have ho5 := A5.o2
              rw [hl6] at ho5
              obtain ⟨B6, b6, rfl, hb6⟩ := own_shape ho5
              have D5 := D4.grown hg (fun e => by have h1 := (A4.o2.lt _ e.symm).1; have h2 := HT9.out; omega)
              clear ho hg hl5 hl6 ho5 hld A4 D4 scd hl4
              refine wp_append_run (.tmp 92) (.tmp 96) 23 (by rfl) (by rfl) (by rfl) hr ?_
              refine hK.out _ _ ⟨A5.fr, fun _ => D5.cell 4, fun _ => trivial⟩ (fun hS => ?_)
              clear hK K hr
              try simp only [Act.put, List.setIfInBounds_toArray, List.set_cons_zero, List.set_cons_succ]
              refine wpG_take0 (i := 18) (v := ?v31) rfl (by kernel_rfl) (by kernel_rfl) (by kernel_rfl) (by decide) (by decide) (fun _ _ _ h => h) hS (Or.inl ⟨by rfl, ?hy31⟩) ?rest31
              case hy31 => (intro w' hw; (try dsimp only at hw); have u0 := (hw.cell (p := ⟨w.heap.size + 1, 0, none⟩) HTB.out HT6.out).trans (HZ6.out 0); have u3 := (hw.cell (p := ⟨w.heap.size + 1, 3, none⟩) HTB.out HT6.out).trans (HZ6.out 3); have u4 := (hw.cell (p := ⟨w.heap.size + 1, 4, none⟩) HTB.out HT6.out).trans (HZ6.out 4); have k0 := (hw.cell (p := ⟨g0, o0 + i, none⟩) HG0.out.1 HG0.out.2).trans HC0.out; have k1 := (hw.cell (p := ⟨g, o + i * 5, none⟩) HG1.out.1 HG1.out.2).trans HC1.out.1; have k2 := (hw.cell (p := ⟨g, o + i * 5 + 1, none⟩) HG1.out.1 HG1.out.2).trans HC1.out.2.1; have k3 := (hw.cell (p := ⟨g, o + i * 5 + 2, none⟩) HG1.out.1 HG1.out.2).trans HC1.out.2.2.1; have k4 := (hw.cell (p := ⟨g, o + i * 5 + 3, none⟩) HG1.out.1 HG1.out.2).trans HC1.out.2.2.2.1; have k5 := (hw.cell (p := ⟨g, o + i * 5 + 4, none⟩) HG1.out.1 HG1.out.2).trans HC1.out.2.2.2.2; go_simp; try with_reducible rfl)
              replace hS := SG.set (i := 18) (by decide) (by decide) hS
              try simp only [Act.put, List.setIfInBounds_toArray, List.set_cons_zero, List.set_cons_succ]
              have A6 := A5.put HT9.out 4 (.slice B6 (mt + 1) b6)
              have T9 : RowB (wg.setCell ⟨wb.heap.size, 4, none⟩ (.slice B6 (mt + 1) b6)) wb.heap.size 25 (rzv (.slice B3 (nt + 1) b3) (.slice B6 (mt + 1) b6)) := D5.put 4 _
              have yc := D5.cell
              have yt := D5.thaw
              clear A5 hS
              refine wpG_ready (rs := [19]) (by kernel_rfl) (by simp) ?_
              refine RG.cons rfl rfl (fun K hK => ?_) RG.nil
              go_simp
              refine hK.out _ _ ⟨A6.fr, fun h => absurd (h : true = false) (by decide), fun _ => trivial⟩ (fun hS => ?_)
              clear hK K hS yc yt D5
              try simp only [Act.put, List.setIfInBounds_toArray, List.set_cons_zero, List.set_cons_succ]
              refine wpG_done (by kernel_rfl) ?_ _
              obtain ⟨WX, hWX⟩ : ∃ WX, WX = wg.setCell ⟨wb.heap.size, 4, none⟩ (.slice B6 (mt + 1) b6) := ⟨_, rfl⟩
              rw [← hWX] at A6 T9 ⊢
              clear hWX
              go_wp2_with fail
              all_goals
                go_meet
                exact ⟨_, _, _, A6, T9⟩
            · have A2 := AD.alloc (.cells (yv hp En np.length en E pp.length e3) 25)
              have D2 := D9.alloc (.cells (yv hp En np.length en E pp.length e3) 25)
              have ry := RowB.new wd 25 (yv hp En np.length en E pp.length e3)
              have hyl := ry.lt
              go_simp
              refine hK.out _ _ ⟨A2.fr, fun _ => D2.cell 4, fun _ => trivial⟩ (fun hS => ?_)
              clear hK K AD D9 hS
              try simp only [Act.put, List.setIfInBounds_toArray, List.set_cons_zero, List.set_cons_succ]
              obtain ⟨we, hwe⟩ : ∃ we, we = wd.alloc (.cells (yv hp En np.length en E pp.length e3) 25) := ⟨_, rfl⟩
              rw [← hwe] at A2 D2 ry hyl ⊢
              clear hwe
              refine wpG_ready (rs := [6]) (by kernel_rfl) (by simp) ?_
              refine RG.cons rfl rfl (fun K hK => ?_) RG.nil
              obtain ⟨ck, tck, lck, ock, sck⟩ := tv_src HPP.out (HTN.out _ (Fr.refl _ _ _)).2 A2.fr a HAM.out
              obtain ⟨v1, wa, hr, ho, hg⟩ := append_vls (w := we) W9.heap.size (.slice none 0 0) _ _ A2.o2 B2 a d2 ck lck sck ock (by simp; omega) A2.fr.size
              have hlt : (tp.take a).length = a := by rw [List.length_take]; have := HAM.out; omega
              have A2x := A2.apps2 (ts := tp.take a) (by rw [hlt]; exact ho) hg (VL.keep (Nat.le_refl _) (fun g hg _ => ⟨rfl, hg, HPP.out g hg⟩) _ _ tck)
              have ho7 := A2x.o2
              rw [List.nil_append, hlt] at ho7
              obtain ⟨B1, b1, rfl, hb1⟩ := own_shape ho7
              have rx := ry.grown hg (fun e => by cases e)
              have D2x := D2.grown hg (fun e => by cases e)
              clear ho hg ho7 D2 A2 sck hlt
              rw [List.nil_append] at A2x
              refine wp_append_run (.tmp 81) (.tmp 85) 23 (by rfl) (by rfl) (by rfl) hr ?_
              refine hK.out _ _ ⟨A2x.fr, fun _ => D2x.cell 4, fun _ => trivial⟩ (fun hS => ?_)
              clear hK K hr ry hyl hS
              try simp only [Act.put, List.setIfInBounds_toArray, List.set_cons_zero, List.set_cons_succ]
              refine wpG_ready (rs := [12]) (by kernel_rfl) (by simp) ?_
              refine RG.cons rfl rfl (fun K hK => ?_) RG.nil
              have htp : VL W9 Pq [Vl.mk hp np pp] (vcs (Vl.mk hp np pp) En en E e3) := VL.one HTI.out
              obtain ⟨v2, wf, hr, ho, hg⟩ := append_vls (w := wa) W9.heap.size (.slice B1 a b1) _ _ A2x.o2 (some ⟨wd.heap.size, 0, none⟩) 1 1 (vcs (Vl.mk hp np pp) En en E e3) rfl (fun _ => ⟨_, _, rfl, fun j u hj => by rw [Nat.zero_add, rx.cell, ← Array.getElem?_toList]; exact hj⟩) (VL.cell1 _ _ htp) (by rw [List.length_take]; have := HNTB.out; omega) A2x.fr.size
              have A4 := A2x.apps2 (ts := [Vl.mk hp np pp]) ho hg (VL.keep (Nat.le_refl _) (fun g hg _ => ⟨rfl, hg, HPP.out g hg⟩) _ _ htp)
              have hl4 : (tp.take a ++ [Vl.mk hp np pp]).length = a + 1 := by rw [List.length_append, List.length_take]; have := HAM.out; simp; omega
              have ho4 := A4.o2
              rw [hl4] at ho4
              obtain ⟨B5, b5, rfl, hb5⟩ := own_shape ho4
              have D4 := D2x.grown hg (fun e => by have h1 := (A2x.o2.lt _ e.symm).1; have h2 := HT9.out; omega)
              clear ho hg ho4 A2x D2x htp
              refine wp_append_run (.tmp 86) (.tmp 91) 23 (by rfl) (by rfl) (by rfl) hr ?_
              refine hK.out _ _ ⟨A4.fr, fun _ => D4.cell 4, fun _ => trivial⟩ (fun hS => ?_)
              clear hK K hS hr
              try simp only [Act.put, List.setIfInBounds_toArray, List.set_cons_zero, List.set_cons_succ]
              refine wpG_ready (rs := [17]) (by kernel_rfl) (by simp) ?_
              refine RG.cons rfl rfl (fun K hK => ?_) RG.nil
              obtain ⟨cd, tcd, lcd, ocd, scd⟩ := tv_dr HPP.out (HTN.out _ (Fr.refl _ _ _)).2 A4.fr a HAM.out
              rw [← HMT.out] at lcd scd
              obtain ⟨v3, wg, hr, ho, hg⟩ := append_vls (w := wf) W9.heap.size (.slice B5 (a + 1) b5) _ _ A4.o2 _ (mt - a) (d2 - a) cd lcd scd ocd (by rw [hl4]; have := HNTB.out; omega) A4.fr.size
              have hld : (tp.drop a).length = mt - a := by rw [List.length_drop, ← HMT.out]
              have A5 := A4.apps2 (ts := tp.drop a) (by rw [hld]; exact ho) hg (VL.keep (Nat.le_refl _) (fun g hg _ => ⟨rfl, hg, HPP.out g hg⟩) _ _ tcd)
              have hl5 : (tp.take a ++ [Vl.mk hp np pp] ++ tp.drop a) = insAt tp a (Vl.mk hp np pp) := by unfold insAt; simp
              rw [hl5] at A5
              have hl6 : (insAt tp a (Vl.mk hp np pp)).length = mt + 1 := by rw [insAt_len, ← HMT.out]
              have ho5 := A5.o2
              rw [hl6] at ho5
              obtain ⟨B6, b6, rfl, hb6⟩ := own_shape ho5
              have D5 := D4.grown hg (fun e => by have h1 := (A4.o2.lt _ e.symm).1; have h2 := HT9.out; omega)
              clear ho hg hl5 hl6 ho5 hld A4 D4 scd hl4
              refine wp_append_run (.tmp 92) (.tmp 96) 23 (by rfl) (by rfl) (by rfl) hr ?_
              refine hK.out _ _ ⟨A5.fr, fun _ => D5.cell 4, fun _ => trivial⟩ (fun hS => ?_)
              clear hK K hr
              try simp only [Act.put, List.setIfInBounds_toArray, List.set_cons_zero, List.set_cons_succ]
              refine wpG_take0 (i := 18) (v := ?v32) rfl (by kernel_rfl) (by kernel_rfl) (by kernel_rfl) (by decide) (by decide) (fun _ _ _ h => h) hS (Or.inl ⟨by rfl, ?hy32⟩) ?rest32
              case hy32 => (intro w' hw; (try dsimp only at hw); have u0 := (hw.cell (p := ⟨w.heap.size + 1, 0, none⟩) HTB.out HT6.out).trans (HZ6.out 0); have u3 := (hw.cell (p := ⟨w.heap.size + 1, 3, none⟩) HTB.out HT6.out).trans (HZ6.out 3); have u4 := (hw.cell (p := ⟨w.heap.size + 1, 4, none⟩) HTB.out HT6.out).trans (HZ6.out 4); have k0 := (hw.cell (p := ⟨g0, o0 + i, none⟩) HG0.out.1 HG0.out.2).trans HC0.out; have k1 := (hw.cell (p := ⟨g, o + i * 5, none⟩) HG1.out.1 HG1.out.2).trans HC1.out.1; have k2 := (hw.cell (p := ⟨g, o + i * 5 + 1, none⟩) HG1.out.1 HG1.out.2).trans HC1.out.2.1; have k3 := (hw.cell (p := ⟨g, o + i * 5 + 2, none⟩) HG1.out.1 HG1.out.2).trans HC1.out.2.2.1; have k4 := (hw.cell (p := ⟨g, o + i * 5 + 3, none⟩) HG1.out.1 HG1.out.2).trans HC1.out.2.2.2.1; have k5 := (hw.cell (p := ⟨g, o + i * 5 + 4, none⟩) HG1.out.1 HG1.out.2).trans HC1.out.2.2.2.2; go_simp; try with_reducible rfl)
              replace hS := SG.set (i := 18) (by decide) (by decide) hS
              try simp only [Act.put, List.setIfInBounds_toArray, List.set_cons_zero, List.set_cons_succ]
              have A6 := A5.put HT9.out 4 (.slice B6 (mt + 1) b6)
              have T9 : RowB (wg.setCell ⟨wb.heap.size, 4, none⟩ (.slice B6 (mt + 1) b6)) wb.heap.size 25 (rzv (.slice B3 (nt + 1) b3) (.slice B6 (mt + 1) b6)) := D5.put 4 _
              have yc := D5.cell
              have yt := D5.thaw
              clear A5 hS
              refine wpG_ready (rs := [19]) (by kernel_rfl) (by simp) ?_
              refine RG.cons rfl rfl (fun K hK => ?_) RG.nil
              go_simp
              refine hK.out _ _ ⟨A6.fr, fun h => absurd (h : true = false) (by decide), fun _ => trivial⟩ (fun hS => ?_)
              clear hK K hS yc yt D5
              try simp only [Act.put, List.setIfInBounds_toArray, List.set_cons_zero, List.set_cons_succ]
              refine wpG_done (by kernel_rfl) ?_ _
              obtain ⟨WX, hWX⟩ : ∃ WX, WX = wg.setCell ⟨wb.heap.size, 4, none⟩ (.slice B6 (mt + 1) b6) := ⟨_, rfl⟩
              rw [← hWX] at A6 T9 ⊢
              clear hWX
              go_wp2_with fail
              all_goals
                go_meet
                exact ⟨_, _, _, A6, T9⟩
          case rest =>
          have HCT := Lib.hid hcut.out
          clear hcut T9 A1
          obtain ⟨B6, b6, cs, A2, T9⟩ := HCT.out
          clear HCT
          obtain ⟨WC1, hWC⟩ : ∃ WB, WB = wc := ⟨_, rfl⟩
          rw [← hWC] at A2 T9 ⊢
          clear hWC
          have hzz := A2.fin HZX.out W9.heap.size (Nat.le_refl _) ⟨3, 0, ⟨#[]⟩⟩
          obtain ⟨An5, cn5, A5, c5, e1, e2, hti⟩ := hzz
          injection e1 with e11 e12 e13
          injection e2 with e21 e22 e23
          subst e11 e13 e21 e23
          have HTI5 := Lib.hid hti
          have hf5 := A2.fr
          have R6' := hf5.row R6.out HTB.out HT6.out
          have z6 := R6'.cell
          have z6t := R6'.thaw
          have z9 := T9.cell
          have HF3 : Hid (Fr (w.heap.size + 1) W.heap.size W WC1) := ⟨hf5.os.trans HFR9.out.os, hf5.tape.trans HFR9.out.tape, hf5.output.trans HFR9.out.output, Nat.le_trans HFR9.out.size hf5.size, fun k hk hne => (hf5.block k (Nat.lt_of_lt_of_le hk HFR9.out.size) (by have := HFRD.out.size; omega)).trans (HFR9.out.block k hk hne)⟩
          obtain ⟨tn2, htn2⟩ : ∃ l, l = insAt tn a x := ⟨_, rfl⟩
          obtain ⟨tp2, htp2⟩ : ∃ l, l = insAt tp a (.mk hp np pp) := ⟨_, rfl⟩
          rw [← htn2, ← htp2] at HTI5
          rw [← htn2] at e12
          rw [← htp2] at e22
          rw [← htn2, ← htp2] at HRECI
          obtain ⟨j, hj⟩ : ∃ j, j = i + 1 := ⟨_, rfl⟩
          rw [← hj] at HRECI HND2
          have HR6 := Lib.hid R6'
          have HSZ : Hid (W9.heap.size ≤ WC1.heap.size) := hf5.size
          have HNEW : Hid (RD w W P ns ps j (put5 WC1 (w.heap.size + 1) (.int .i64 3) (.int .i64 0) (.string ⟨#[]⟩) (.slice B3 (nt + 1) b3) (.slice B6 (mt + 1) b6)) tn2 tp2 B3 b3 B6 b6) := by
            refine ⟨HRECI.out, HND2.out, (HTI5.out _ (fun g hg hne hp => ?_) (by rw [put5_size]; exact Nat.le_refl _) HT9.out).mono (fun g hg => ?_), ?_, ?_⟩
            · refine put5_block _ _ _ _ _ _ _ ?_
              rcases hp with h | h
              · have := HTB.out; omega
              · rcases (HPQ.out g h).1 with h1 | h1
                · have := h1.2; omega
                · omega
            · rcases hg with h | h
              · exact (HPQ.out g h).1
              · exact .inr (by have := HTB.out; omega)
            · rw [← e12, ← e22]
              exact ((((HR6.out.put 0 _).put 1 _).put 2 _).put 3 _).put 4 _
            · exact ((((HF3.out.put 0 _).put 1 _).put 2 _).put 3 _).put 4 _
          unfold put5 at HNEW
          clear hti hf5 R6' HF3 HR6 A2 T9 htn2 htp2 e12 e22 HRECI HND2 HTI5
          go_wp2_with fail
          go_roundg (n - j)
          case measure => omega
          case rel => exact ⟨j, by rw [hj]; go_num, by omega, by omega, _, _, _, _, _, _, HNEW.out⟩
      · have hil : ¬ (i : Int) < (n : Int) := by omega
        obtain rfl : i = n := by omega
        clear hi
        have h0 := HRD.out
        unfold RD at h0
        rw [List.take_of_length_le (Nat.le_of_eq HN.out.symm), List.take_of_length_le (by rw [← HE.out]; exact Nat.le_of_eq HN.out.symm)] at h0
        obtain ⟨hrec, hnd, hti, hrow, hfr⟩ := h0
        have HREC := Lib.hid hrec
        have HND := Lib.hid hnd
        have HTI := Lib.hid hti
        have Y2 := Lib.hid (hfr.row Y0.out (by have := hTW.out; omega) (Nat.ne_of_lt (Nat.lt_succ_self _)))
        have HB2 : Hid (Below w.heap.size w V) := HB.out.trans (hfr.below (by have := hTW.out; omega) (Nat.le_succ _))
        have z0 := Y2.out.cell
        have z0t := Y2.out.thaw
        have z1 := hrow.cell
        clear hrec hnd hti hrow hfr HRD
        go_wp2_with fail
        refine bodyPost_ret (v := .tuple #[.agg (rzv (.slice Bn2 tn.length dn2) (.slice B2 tp.length d2)), .int .i64 0]) ?_ rfl ⟨.mk ⟨3, 0, ⟨#[]⟩⟩ tn tp, Bn2, dn2, B2, d2, 0, rfl, HTI.out.put5 (fun g hg => ?_) _ _ _ _ _, below_put5 HB2.out (Nat.le_refl _) _ _ _ _ _, .inr (.inr ⟨rfl, HE.out, HND.out, HREC.out⟩)⟩
        · simp [results, Tryd.results24, go_sem, z0]
          try first | rfl | exact ⟨rfl, rfl⟩
        · rcases hg with h | h
          · exact ⟨.inl h.1, by have := h.2; omega⟩
          · exact ⟨.inr (by omega), by omega⟩
end Vm
end Go.Proofs.YtbjlhdjcdinmhaaDoor
