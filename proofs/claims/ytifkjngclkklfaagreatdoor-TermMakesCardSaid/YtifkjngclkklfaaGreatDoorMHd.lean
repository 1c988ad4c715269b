/- Contracts: the record of labels and parts, by the document. -/
import Derived.Test.YtifkjngclkklfaaGreatDoorMHc
import Derived.Test.YtifkjngclkklfaaGreatDoorMGz
import Derived.Test.YtifkjngclkklfaaGreatDoorMGu
namespace Go.Proofs.YtifkjngclkklfaaGreatDoor
open Go.RowKit Go.Op
namespace Tm
/-- What stands where x would be put. -/
theorem ins_no {l : List ByteArray} {x : ByteArray} {i : Nat} (h : riseB l = true) (h1 : ∀ y ∈ l.take i, lt y x = true) (h2 : ∀ y, l[i]? = some y → lt x y = true) : x ∉ l := by
  have hn := rise_nodup (ins_rise i h h1 h2)
  unfold insAt at hn
  rw [List.nodup_append] at hn
  intro hx
  rw [← List.take_append_drop i l, List.mem_append] at hx
  rcases hx with hx | hx
  · exact hn.2.2 x hx x List.mem_cons_self rfl
  · exact (List.nodup_cons.1 hn.2.1).1 hx
theorem nodup_next {ns : List ByteArray} {x : ByteArray} {i : Nat} (e : ns[i]? = some x) (h : (ns.take i).Nodup) (hx : x ∉ ns.take i) : (ns.take (i + 1)).Nodup := by
  rw [List.take_add_one, e]
  simp only [Option.toList_some]
  rw [List.nodup_append]
  refine ⟨h, by simp, fun a ha b hb => ?_⟩
  obtain rfl := List.mem_singleton.1 hb
  exact fun e => hx (e ▸ ha)
theorem nodup_not {ns : List ByteArray} {x : ByteArray} {i : Nat} (e : ns[i]? = some x) (hx : x ∈ ns.take i) : ¬ ns.Nodup := fun h => by
  rw [← List.take_append_drop i ns, List.nodup_append] at h
  have hd : x ∈ ns.drop i := List.mem_of_getElem? (i := 0) (by rw [List.getElem?_drop]; exact e)
  exact h.2.2 x hx x hd rfl
/-- The record as far as it has been laid. -/
def RD (w W : World) (P : Nat → Prop) (ns : List ByteArray) (ps : List Ty) (i : Nat) (wr : World) (tn : List ByteArray) (tp : List Ty) (Bn2 : Option Addr) (dn2 : Nat) (B2 : Option Addr) (d2 : Nat) : Prop :=
  IsRec (ns.take i) (ps.take i) (.mk 3 tn tp) ∧ (ns.take i).Nodup ∧ TI wr (fun g => (P g ∧ g < w.heap.size) ∨ w.heap.size + 2 ≤ g) (.mk 3 tn tp) Bn2 dn2 B2 d2 ∧ RowB wr (w.heap.size + 1) 25 (tarr 3 Bn2 tn.length dn2 B2 tp.length d2) ∧ Fr (w.heap.size + 1) W.heap.size W wr
set_option maxHeartbeats 8000000 in
set_option maxRecDepth 100000 in
theorem rrec_any (w : World) (ns : List ByteArray) (ps : List Ty) (P : Nat → Prop) (An : Option Addr) (cn : Nat) (A : Option Addr) (c : Nat) (hN : NV w P ns An cn) (hT : TV w P ps A c) (hl : ns.length ≤ 1000000) :
    Calls Tryz.prog 27 #[.slice An ns.length cn, .slice A ps.length c] w (RecQ P ns ps w) := by
  have b1 : Below w.heap.size w (w.alloc (.cells tzc 25)) := bel1 w _
  have R0 := Lib.hid (RowB.new w 25 tzc)
  have HB1 := Lib.hid b1
  by_cases he : ns.length = ps.length
  case neg =>
    have HE := Lib.hid he
    have r0 := R0.out.cell
    have r0t := R0.out.thaw
    generalize hn : ns.length = n at *
    generalize hm : ps.length = m at *
    have he1 : ((n : Int) != (m : Int)) = true := by simp; omega
    have HN := Lib.hid hn
    have HM := Lib.hid hm
    clear hN hT hl b1 he hn hm
    go_enter Tryz.func27, Tryz.ntmps27
    go_wp2_with fail
    refine bodyPost_ret (v := .tuple #[tz, .int .i64 1]) ?_ rfl (RecQ.none HB1.out (.inl ⟨rfl, by rw [HN.out, HM.out]; exact HE.out⟩))
    simp [results, Tryz.results27, go_sem, r0]
    try first | rfl | exact ⟨rfl, rfl⟩
  case pos =>
    rw [← he]
    have b2 : Below (w.alloc (.cells tzc 25)).heap.size (w.alloc (.cells tzc 25)) _ := bel1 _ (.cells #[.int .i64 3, .slice none 0 0, .slice none 0 0] 25)
    obtain ⟨W, hW0⟩ : ∃ W0, W0 = (w.alloc (.cells tzc 25)).alloc (.cells #[.int .i64 3, .slice none 0 0, .slice none 0 0] 25) := ⟨_, rfl⟩
    have HB : Hid (Below w.heap.size w W) := by
      rw [hW0]
      exact b1.trans (b2.mono b1.size)
    have Y0 : Hid (RowB W w.heap.size 25 tzc) := by
      rw [hW0]
      exact R0.out.alloc _
    have Y1 : Hid (RowB W (w.heap.size + 1) 25 #[.int .i64 3, .slice none 0 0, .slice none 0 0]) := by
      have := RowB.new (w.alloc (.cells tzc 25)) 25 #[.int .i64 3, .slice none 0 0, .slice none 0 0]
      rw [hW0]
      unfold Hid
      simpa using this
    have hTW : Hid (w.heap.size + 2 ≤ W.heap.size) := by
      unfold Hid
      rw [hW0]
      simp
    have HE := Lib.hid he
    have HNW : Hid (NV W (fun g => P g ∧ g < w.heap.size) ns An cn) := hN.low.below HB.out
    have HTW : Hid (TV W (fun g => P g ∧ g < w.heap.size) ps A c) := hT.low.below HB.out
    obtain ⟨n, hn⟩ : ∃ n, n = ns.length := ⟨_, rfl⟩
    rw [← hn]
    have HN := Lib.hid hn
    have hn1 : n ≤ 1000000 := by omega
    clear hN hT hl b1 b2 he hn R0 HB1
    go_enter Tryz.func27, Tryz.ntmps27
    go_wp2_with fail
    rw [← hW0]
    clear hW0
    go_loopg [7] (n + 1) (fun kx s7 wr => ∃ i : Nat, s7 = .int .i64 i ∧ n - i ≤ kx ∧ i ≤ n ∧ Hid (∃ tn tp Bn2 dn2 B2 d2, RD w W P ns ps i wr tn tp Bn2 dn2 B2 d2))
    case atStart => exact ⟨0, rfl, by omega, by omega, [], [], none, 0, none, 0, rec_start, List.nodup_nil, TI_iff.2 ⟨NV.nil _ _ _ _, TV.nil _ _ _ _⟩, Y1.out, Fr.refl _ _ _⟩
    case round =>
      obtain ⟨i, rfl, hkx, hin, tn, tp, Bn2, dn2, B2, d2, hrd⟩ := hrel
      obtain ⟨V, hV⟩ : ∃ V, V = wr := ⟨_, rfl⟩
      subst hV
      have HRD := Lib.hid hrd
      clear hrd
      by_cases hi : i < n
      · have hil : (i : Int) < (n : Int) := by omega
        obtain ⟨x, hx⟩ := get_lt (l := ns) (i := i) (by rw [← HN.out]; exact hi)
        obtain ⟨p, hp⟩ := get_lt (l := ps) (i := i) (by rw [← HE.out, ← HN.out]; exact hi)
        have hfr := HRD.out.2.2.2.2
        have hkk : ∀ g, P g ∧ g < w.heap.size → g < W.heap.size → V.heap[g]? = W.heap[g]? ∧ P g ∧ g < w.heap.size := fun g hg hl => ⟨hfr.block g hl (by have := hg.2; omega), hg⟩
        have HNV : Hid (NV V (fun g => P g ∧ g < w.heap.size) ns An cn) := HNW.out.keep hfr.size hkk
        have HTV : Hid (TV V (fun g => P g ∧ g < w.heap.size) ps A c) := HTW.out.keep hfr.size hkk
        obtain ⟨g0, o0, hA0, hP0, hg0, y0, hz0⟩ := HNV.out.nth hx
        obtain ⟨g, o, En, en, E, e3, hA1, hP1, hg1, hti, u0, u1, u2⟩ := HTV.out.nth hp
        have hne0 : g0 ≠ w.heap.size + 1 := by have := hP0.2; omega
        have hne1 : g ≠ w.heap.size + 1 := by have := hP1.2; omega
        have HTI := Lib.hid hti
        have HX := Lib.hid hx
        have HP := Lib.hid hp
        have HZ := Lib.hid hz0
        have HNT : Hid (tn.length ≤ i ∧ tn.length = tp.length) := by
          have h1 := HRD.out.1
          have h2 := h1.len_le
          have h3 := h1.len
          simp only [names_mk, parts_mk, List.length_take] at h2 h3
          exact ⟨by omega, h3⟩
        obtain ⟨nt, hnt⟩ : ∃ nt, nt = tn.length := ⟨_, rfl⟩
        have HNT2 := Lib.hid hnt
        have hnt1 : nt ≤ 1000001 := by have := HNT.out.1; omega
        have HNTN : Hid (NV V (fun g => (P g ∧ g < w.heap.size) ∨ w.heap.size + 2 ≤ g) tn Bn2 dn2) := (TI_iff.1 HRD.out.2.2.1).1
        have zt := HRD.out.2.2.2.1.cell
        rw [← hnt] at zt
        subst hA0 hA1
        clear hx hp hfr hkk hz0 hti hnt hP0 hP1
        have HC0 : Hid (V.cell? ⟨g0, o0 + i, none⟩ = some (.string x)) := y0
        have HC1 : Hid (V.cell? ⟨g, o + i * 3, none⟩ = some (.int .i64 p.kind) ∧ V.cell? ⟨g, o + i * 3 + 1, none⟩ = some (.slice En p.names.length en) ∧ V.cell? ⟨g, o + i * 3 + 2, none⟩ = some (.slice E p.parts.length e3)) := ⟨u0, u1, u2⟩
        have HZT : Hid (∀ j, V.cell? ⟨w.heap.size + 1, j, none⟩ = (tarr 3 Bn2 nt dn2 B2 tp.length d2)[j]?) := zt
        clear y0 u0 u1 u2 zt
        go_wp2_with fail
        go_loopg [8] (nt + 1) (fun kx s8 wq => ∃ a : Nat, s8 = .int .i64 a ∧ nt - a ≤ kx ∧ a ≤ nt ∧ Hid (∀ y ∈ tn.take a, lt y x = true) ∧ Hid (Below V.heap.size V wq))
        case atStart => exact ⟨0, rfl, by omega, by omega, (by simp [Hid]), Below.refl _ _⟩
        case round =>
          obtain ⟨a, rfl, hka, han, HL, HBQ⟩ := hrel
          have HLTV : Hid (w.heap.size + 1 < V.heap.size) := HRD.out.2.2.2.1.lt
          have HFC : Hid (∀ w', Below V.heap.size V w' → (∀ j, w'.cell? ⟨w.heap.size + 1, j, none⟩ = (tarr 3 Bn2 nt dn2 B2 tp.length d2)[j]?) ∧ w'.cell? ⟨g0, o0 + i, none⟩ = some (.string x)) := fun w' hb => ⟨fun j => (hb.cell (p := ⟨w.heap.size + 1, j, none⟩) HLTV.out).trans (HZT.out j), (hb.cell (p := ⟨g0, o0 + i, none⟩) hg0).trans HC0.out⟩
          obtain ⟨z1, y0⟩ := HFC.out wr HBQ.out
          go_upto_region 8 with fail
          by_cases ha : a < nt
          · have hal : (a : Int) < (nt : Int) := by omega
            obtain ⟨y, hy⟩ := get_lt (l := tn) (i := a) (by rw [← HNT2.out]; exact ha)
            obtain ⟨g2, o2, hA2, hP2, hg2, y2', _⟩ := HNTN.out.nth hy
            have y2 := (HBQ.out.cell (p := ⟨g2, o2 + a, none⟩) hg2).trans y2'
            subst hA2
            have HY := Lib.hid hy
            have HY2 : Hid (V.cell? ⟨g2, o2 + a, none⟩ = some (.string y)) := y2'
            clear hy y2' hP2
            by_cases hlt : lt y x = true
            · have hq : bytesLess y.toList x.toList = true := hlt
              have HLT : Hid (∀ z ∈ tn.take (a + 1), lt z x = true) := fun z hz => by
                rw [List.take_add_one, HY.out, List.mem_append] at hz
                rcases hz with hz | hz
                · exact HL.out z hz
                · obtain rfl : z = y := by simpa using hz
                  exact hlt
              obtain ⟨j, hj⟩ : ∃ j, j = a + 1 := ⟨_, rfl⟩
              rw [← hj] at HLT
              go_quiet (fail)
              go_wp2_with fail
              go_roundg (nt - j)
              case measure => omega
              case rel => exact ⟨j, by rw [hj]; go_num, by omega, by omega, HLT.out, below_drewN HBQ.out _⟩
            · have hq : bytesLess y.toList x.toList = false := by simpa [lt] using hlt
              by_cases hxy : y = x
              · subst hxy
                have HND : Hid (¬ ns.Nodup) := nodup_not HX.out (by
                  have h1 := (rec_names HRD.out.1 (by rw [List.length_take, List.length_take, HE.out]) y).1 (List.mem_of_getElem? HY.out)
                  exact h1)
                go_quiet (fail)
                obtain ⟨wa, hwa⟩ : ∃ wa, wa = wr.drewN nq := ⟨_, rfl⟩
                have HBX : Hid (Below V.heap.size V wa) := by rw [hwa]; exact below_drewN HBQ.out _
                rw [← hwa]
                clear hwa
                go_wp2_with fail
                go_upto_region 10 with fail
                have hqq : (y.toList == y.toList) = true := by simp
                obtain ⟨z1', y0'⟩ := HFC.out _ HBX.out
                have y2' := (HBX.out.cell (p := ⟨g2, o2 + a, none⟩) hg2).trans HY2.out
                go_quiet (fail)
                have HBX2 := Lib.hid (below_drewN HBX.out nq)
                have hf2 := (HRD.out.2.2.2.2.step (.of HBX2.out))
                have Y2 := Lib.hid (hf2.row Y0.out (by have := hTW.out; omega) (Nat.ne_of_lt (Nat.lt_succ_self _)))
                have HB2' := Lib.hid (HB.out.trans (hf2.below (by have := hTW.out; omega) (Nat.le_succ _)))
                have z0 := Y2.out.cell
                have z0t := Y2.out.thaw
                go_wp2_with fail
                refine bodyPost_ret (v := .tuple #[tz, .int .i64 40]) ?_ rfl (RecQ.none (below_put3 HB2'.out (Nat.le_refl _) _ _ _) (.inr ⟨rfl, HE.out, HND.out⟩))
                simp [results, Tryz.results27, go_sem, z0]
                try first | rfl | exact ⟨rfl, rfl⟩
              · have hqq : (y.toList == x.toList) = false := by rw [beq_ba]; exact decide_eq_false hxy
                have HNX : Hid (∀ z, tn[a]? = some z → lt x z = true) := fun z hz => by
                  rw [HY.out] at hz
                  injection hz with hz
                  subst hz
                  cases h2 : lt x y with
                  | true => rfl
                  | false => exact absurd (lt_tri (by simpa using hlt) h2) hxy
                go_quiet (fail)
                obtain ⟨wa, hwa⟩ : ∃ wa, wa = wr.drewN nq := ⟨_, rfl⟩
                have HBX : Hid (Below V.heap.size V wa) := by rw [hwa]; exact below_drewN HBQ.out _
                rw [← hwa]
                clear hwa
                go_wp2_with fail
                go_upto_region 10 with fail
                obtain ⟨z1', y0'⟩ := HFC.out _ HBX.out
                have y2' := (HBX.out.cell (p := ⟨g2, o2 + a, none⟩) hg2).trans HY2.out
                go_quiet (fail)
                obtain ⟨wb, hwb⟩ : ∃ wb, wb = wa.drewN nq := ⟨_, rfl⟩
                have HBW : Hid (Below V.heap.size V wb) := by rw [hwb]; exact below_drewN HBX.out _
                rw [← hwb]
                clear hwb z1 z1' y0' HBX HBQ
                try clear y2'
                try clear y2
                try clear y0
                go_upto_region 12 with fail
                have HI : Hid (i < n) := hi
                obtain ⟨wd, hwd⟩ : ∃ wd, wd = wb.drew := ⟨_, rfl⟩
                have HBD : Hid (Below V.heap.size V wd) := by rw [hwd]; exact Below.drew HBW.out
                have hlp : (i : Int) < (n : Int) := hil
                have rowD : RowB wd (w.heap.size + 1) 25 (tarr 3 (some ⟨g2, o2, none⟩) nt dn2 B2 tp.length d2) := by have := HRD.out.2.2.2.1.below HBD.out HLTV.out; rw [← HNT2.out] at this; exact this
                have q0 := (HBD.out.cell (p := ⟨g0, o0 + i, none⟩) hg0).trans HC0.out
                have q1 := (HBD.out.cell (p := ⟨g, o + i * 3, none⟩) hg1).trans HC1.out.1
                have q2 := (HBD.out.cell (p := ⟨g, o + i * 3 + 1, none⟩) hg1).trans HC1.out.2.1
                have q3 := (HBD.out.cell (p := ⟨g, o + i * 3 + 2, none⟩) hg1).trans HC1.out.2.2
                have hlt0 : g0 < wd.heap.size := Nat.lt_of_lt_of_le hg0 HBD.out.size
                have hlt1 : g < wd.heap.size := Nat.lt_of_lt_of_le hg1 HBD.out.size
                have hTD : w.heap.size + 1 < wd.heap.size := rowD.lt
                have CW := with_any wd tn tp _ _ (some ⟨g2, o2, none⟩) dn2 B2 d2 a x p En en E e3 ((TI_iff.1 (HRD.out.2.2.1.below HBD.out)).1) ((TI_iff.1 (HRD.out.2.2.1.below HBD.out)).2) (HTI.out.below HBD.out) HNT.out.2 (by rw [← HNT2.out]; exact han) (by have := HNT.out.1; omega) HZ.out
                rw [← HNT2.out] at CW
                have CWI := Lib.hid CW
                have HREC2 := Lib.hid (rec_ins HRD.out.1 HX.out HP.out HL.out HNX.out)
                have HND2 := Lib.hid (nodup_next HX.out HRD.out.2.1 (fun h => ins_no HRD.out.1.rise HL.out HNX.out ((rec_names HRD.out.1 (by rw [List.length_take, List.length_take, HE.out]) x).2 h)))
                have HFRD : Hid (Fr (w.heap.size + 1) W.heap.size W wd) := HRD.out.2.2.2.2.step (.of HBD.out)
                obtain ⟨tn2, htn2⟩ : ∃ l, l = insAt tn a x := ⟨_, rfl⟩
                obtain ⟨tp2, htp2⟩ : ∃ l, l = insAt tp a p := ⟨_, rfl⟩
                simp only [names_mk, parts_mk] at HREC2
                rw [← htn2, ← htp2] at CWI HREC2
                obtain ⟨kp, np, pp⟩ := p
                simp only [tv, kind_mk, names_mk, parts_mk] at CWI q1 q2 q3
                obtain ⟨j, hj⟩ : ∃ j, j = i + 1 := ⟨_, rfl⟩
                rw [← hj] at HREC2 HND2
                clear CW htn2 htp2 HL HNX HRD HC0 HC1 HZT HFC HTI HX HP HNV HTV HNTN HZ HBW
                refine wp_region_G (S := SG (fun w' => Fr (w.heap.size + 1) wd.heap.size wd w') 11 (fun w' => ∀ j, w'.cell? ⟨w.heap.size + 1, j, none⟩ = (tarr 3 (some ⟨g2, o2, none⟩) nt dn2 B2 tp.length d2)[j]?) 11 (fun _ => True)) (by kernel_rfl) (by rw [← hwd]; exact ⟨Fr.refl _ _ _, fun _ => rowD.cell, fun _ => trivial⟩) (fun hS => ?_)
                rw [← hwd] at hS ⊢
                clear hwd
                refine wpG_take1 (i := 0) (v := ?v1) rfl (by kernel_rfl) (by kernel_rfl) (by kernel_rfl) (by decide) (by decide) (by kernel_rfl) (by kernel_rfl) (fun _ _ _ h => h) hS (Or.inl ⟨by rfl, ?hy1⟩) ?rest1
                case hy1 => (intro w' hw; (try dsimp only at hw); obtain ⟨_, u9⟩ := hw; go_simp; try with_reducible rfl)
                replace hS := SG.set (i := 0) (by decide) (by decide) hS
                try simp only [Act.put, List.setIfInBounds_toArray, List.set_cons_zero, List.set_cons_succ]
                refine wpG_take0 (i := 1) (v := ?v2) rfl (by kernel_rfl) (by kernel_rfl) (by kernel_rfl) (by decide) (by decide) (fun _ _ _ h => h) hS (Or.inl ⟨by rfl, ?hy2⟩) ?rest2
                case hy2 => (intro w' hw; (try dsimp only at hw); have u0 := (hw.cell (p := ⟨g0, o0 + i, none⟩) hlt0 hne0).trans q0; have u1 := (hw.cell (p := ⟨g, o + i * 3, none⟩) hlt1 hne1).trans q1; have u2 := (hw.cell (p := ⟨g, o + i * 3 + 1, none⟩) hlt1 hne1).trans q2; have u3 := (hw.cell (p := ⟨g, o + i * 3 + 2, none⟩) hlt1 hne1).trans q3; go_simp; try with_reducible rfl)
                replace hS := SG.set (i := 1) (by decide) (by decide) hS
                try simp only [Act.put, List.setIfInBounds_toArray, List.set_cons_zero, List.set_cons_succ]
                refine wpG_take0 (i := 2) (v := ?v3) rfl (by kernel_rfl) (by kernel_rfl) (by kernel_rfl) (by decide) (by decide) (fun _ _ _ h => h) hS (Or.inl ⟨by rfl, ?hy3⟩) ?rest3
                case hy3 => (intro w' hw; (try dsimp only at hw); have u0 := (hw.cell (p := ⟨g0, o0 + i, none⟩) hlt0 hne0).trans q0; have u1 := (hw.cell (p := ⟨g, o + i * 3, none⟩) hlt1 hne1).trans q1; have u2 := (hw.cell (p := ⟨g, o + i * 3 + 1, none⟩) hlt1 hne1).trans q2; have u3 := (hw.cell (p := ⟨g, o + i * 3 + 2, none⟩) hlt1 hne1).trans q3; go_simp; try with_reducible rfl)
                replace hS := SG.set (i := 2) (by decide) (by decide) hS
                try simp only [Act.put, List.setIfInBounds_toArray, List.set_cons_zero, List.set_cons_succ]
                refine wpG_take0 (i := 3) (v := ?v4) rfl (by kernel_rfl) (by kernel_rfl) (by kernel_rfl) (by decide) (by decide) (fun _ _ _ h => h) hS (Or.inl ⟨by rfl, ?hy4⟩) ?rest4
                case hy4 => (intro w' hw; (try dsimp only at hw); have u0 := (hw.cell (p := ⟨g0, o0 + i, none⟩) hlt0 hne0).trans q0; have u1 := (hw.cell (p := ⟨g, o + i * 3, none⟩) hlt1 hne1).trans q1; have u2 := (hw.cell (p := ⟨g, o + i * 3 + 1, none⟩) hlt1 hne1).trans q2; have u3 := (hw.cell (p := ⟨g, o + i * 3 + 2, none⟩) hlt1 hne1).trans q3; go_simp; try with_reducible rfl)
                replace hS := SG.set (i := 3) (by decide) (by decide) hS
                try simp only [Act.put, List.setIfInBounds_toArray, List.set_cons_zero, List.set_cons_succ]
                refine wpG_take0 (i := 4) (v := ?v5) rfl (by kernel_rfl) (by kernel_rfl) (by kernel_rfl) (by decide) (by decide) (fun _ _ _ h => h) hS (Or.inl ⟨by rfl, ?hy5⟩) ?rest5
                case hy5 => (intro w' hw; (try dsimp only at hw); have u0 := (hw.cell (p := ⟨g0, o0 + i, none⟩) hlt0 hne0).trans q0; have u1 := (hw.cell (p := ⟨g, o + i * 3, none⟩) hlt1 hne1).trans q1; have u2 := (hw.cell (p := ⟨g, o + i * 3 + 1, none⟩) hlt1 hne1).trans q2; have u3 := (hw.cell (p := ⟨g, o + i * 3 + 2, none⟩) hlt1 hne1).trans q3; go_simp; try with_reducible rfl)
                replace hS := SG.set (i := 4) (by decide) (by decide) hS
                try simp only [Act.put, List.setIfInBounds_toArray, List.set_cons_zero, List.set_cons_succ]
                refine wpG_take0 (i := 5) (v := ?v6) rfl (by kernel_rfl) (by kernel_rfl) (by kernel_rfl) (by decide) (by decide) (fun _ _ _ h => h) hS (Or.inl ⟨by rfl, ?hy6⟩) ?rest6
                case hy6 => (intro w' hw; (try dsimp only at hw); have u0 := (hw.cell (p := ⟨g0, o0 + i, none⟩) hlt0 hne0).trans q0; have u1 := (hw.cell (p := ⟨g, o + i * 3, none⟩) hlt1 hne1).trans q1; have u2 := (hw.cell (p := ⟨g, o + i * 3 + 1, none⟩) hlt1 hne1).trans q2; have u3 := (hw.cell (p := ⟨g, o + i * 3 + 2, none⟩) hlt1 hne1).trans q3; go_simp; try with_reducible rfl)
                replace hS := SG.set (i := 5) (by decide) (by decide) hS
                try simp only [Act.put, List.setIfInBounds_toArray, List.set_cons_zero, List.set_cons_succ]
                refine wpG_take0 (i := 6) (v := ?v7) rfl (by kernel_rfl) (by kernel_rfl) (by kernel_rfl) (by decide) (by decide) (fun _ _ _ h => h) hS (Or.inl ⟨by rfl, ?hy7⟩) ?rest7
                case hy7 => (intro w' hw; (try dsimp only at hw); have u0 := (hw.cell (p := ⟨g0, o0 + i, none⟩) hlt0 hne0).trans q0; have u1 := (hw.cell (p := ⟨g, o + i * 3, none⟩) hlt1 hne1).trans q1; have u2 := (hw.cell (p := ⟨g, o + i * 3 + 1, none⟩) hlt1 hne1).trans q2; have u3 := (hw.cell (p := ⟨g, o + i * 3 + 2, none⟩) hlt1 hne1).trans q3; go_simp; try with_reducible rfl)
                replace hS := SG.set (i := 6) (by decide) (by decide) hS
                try simp only [Act.put, List.setIfInBounds_toArray, List.set_cons_zero, List.set_cons_succ]
                refine wpG_take0 (i := 7) (v := ?v8) rfl (by kernel_rfl) (by kernel_rfl) (by kernel_rfl) (by decide) (by decide) (fun _ _ _ h => h) hS (Or.inl ⟨by rfl, ?hy8⟩) ?rest8
                case hy8 => (intro w' hw; (try dsimp only at hw); have u0 := (hw.cell (p := ⟨g0, o0 + i, none⟩) hlt0 hne0).trans q0; have u1 := (hw.cell (p := ⟨g, o + i * 3, none⟩) hlt1 hne1).trans q1; have u2 := (hw.cell (p := ⟨g, o + i * 3 + 1, none⟩) hlt1 hne1).trans q2; have u3 := (hw.cell (p := ⟨g, o + i * 3 + 2, none⟩) hlt1 hne1).trans q3; go_simp; try with_reducible rfl)
                replace hS := SG.set (i := 7) (by decide) (by decide) hS
                try simp only [Act.put, List.setIfInBounds_toArray, List.set_cons_zero, List.set_cons_succ]
                refine wpG_take0 (i := 8) (v := ?v9) rfl (by kernel_rfl) (by kernel_rfl) (by kernel_rfl) (by decide) (by decide) (fun _ _ _ h => h) hS (Or.inl ⟨by rfl, ?hy9⟩) ?rest9
                case hy9 => (intro w' hw; (try dsimp only at hw); have u0 := (hw.cell (p := ⟨g0, o0 + i, none⟩) hlt0 hne0).trans q0; have u1 := (hw.cell (p := ⟨g, o + i * 3, none⟩) hlt1 hne1).trans q1; have u2 := (hw.cell (p := ⟨g, o + i * 3 + 1, none⟩) hlt1 hne1).trans q2; have u3 := (hw.cell (p := ⟨g, o + i * 3 + 2, none⟩) hlt1 hne1).trans q3; go_simp; try with_reducible rfl)
                replace hS := SG.set (i := 8) (by decide) (by decide) hS
                try simp only [Act.put, List.setIfInBounds_toArray, List.set_cons_zero, List.set_cons_succ]
                refine wpG_take0 (i := 9) (v := ?v10) rfl (by kernel_rfl) (by kernel_rfl) (by kernel_rfl) (by decide) (by decide) (fun _ _ _ h => h) hS (Or.inl ⟨by rfl, ?hy10⟩) ?rest10
                case hy10 => (intro w' hw; (try dsimp only at hw); have u0 := (hw.cell (p := ⟨g0, o0 + i, none⟩) hlt0 hne0).trans q0; have u1 := (hw.cell (p := ⟨g, o + i * 3, none⟩) hlt1 hne1).trans q1; have u2 := (hw.cell (p := ⟨g, o + i * 3 + 1, none⟩) hlt1 hne1).trans q2; have u3 := (hw.cell (p := ⟨g, o + i * 3 + 2, none⟩) hlt1 hne1).trans q3; go_simp; try with_reducible rfl)
                replace hS := SG.set (i := 9) (by decide) (by decide) hS
                try simp only [Act.put, List.setIfInBounds_toArray, List.set_cons_zero, List.set_cons_succ]
                refine wpG_ready (rs := [10]) (by kernel_rfl) (by simp) ?_
                refine RG.cons rfl rfl (fun K hK => ?_) RG.nil
                go_simp
                refine CWI.out.mono ?_
                rintro e w3 ⟨h3, An5, cn5, A5, c5, rfl, ht5⟩
                go_wp2_with fail
                have rowE := rowD.below h3 hTD
                refine hK.out _ _ ⟨Fr.of h3, fun _ => rowE.cell, fun _ => trivial⟩ (fun hS => ?_)
                clear hK K
                try simp only [Act.put, List.setIfInBounds_toArray, List.set_cons_zero, List.set_cons_succ]
                refine wpG_ready (rs := [11]) (by kernel_rfl) (by simp) ?_
                refine RG.cons rfl rfl (fun K hK => ?_) RG.nil
                have zt1 := rowE.cell
                have zt1t := rowE.thaw
                go_simp
                clear zt1 zt1t
                refine hK.out _ _ ⟨(((Fr.of h3).put 0 _).put 1 _).put 2 _, fun h => absurd (h : true = false) (by decide), fun _ => trivial⟩ (fun hS => ?_)
                clear hK K
                try simp only [Act.put, List.setIfInBounds_toArray, List.set_cons_zero, List.set_cons_succ]
                refine wpG_done (by kernel_rfl) ?_ _
                have HF3 := HFRD.out.trans ((Fr.of (rb := w.heap.size + 1) h3).mono HFRD.out.size)
                have HNEW : Hid (RD w W P ns ps j (((w3.setCell ⟨w.heap.size + 1, 0, none⟩ (.int .i64 3)).setCell ⟨w.heap.size + 1, 1, none⟩ (.slice An5 tn2.length cn5)).setCell ⟨w.heap.size + 1, 2, none⟩ (.slice A5 tp2.length c5)) tn2 tp2 An5 cn5 A5 c5) := by
                  refine ⟨HREC2.out, HND2.out, ht5.put3 (fun g hg => ?_) _ _ _, ((rowE.put 0 _).put 1 _).put 2 _, ((HF3.put 0 _).put 1 _).put 2 _⟩
                  rcases hg with (hg | hg) | hg
                  · refine ⟨hg, ?_⟩
                    rcases hg with h | h
                    · have := h.2; omega
                    · omega
                  · exact ⟨.inl hg, by have := hg.2; omega⟩
                  · exact ⟨.inr (by omega), by omega⟩
                clear hS CWI rowD rowE h3 ht5 HF3 HFRD HREC2 HND2
                go_wp2_with fail
                go_roundg (n - j)
                case measure => omega
                case rel => exact ⟨j, by rw [hj]; go_num, by omega, by omega, _, _, _, _, _, _, HNEW.out⟩
          · have hal : ¬ (a : Int) < (nt : Int) := by omega
            have HNX : Hid (∀ z, tn[a]? = some z → lt x z = true) := fun z hz => by
              have := (List.getElem?_eq_some_iff.1 hz).1
              rw [← HNT2.out] at this
              omega
            go_quiet (fail)
            obtain ⟨wa, hwa⟩ : ∃ wa, wa = wr.drewN nq := ⟨_, rfl⟩
            have HBX : Hid (Below V.heap.size V wa) := by rw [hwa]; exact below_drewN HBQ.out _
            rw [← hwa]
            clear hwa
            go_wp2_with fail
            go_upto_region 10 with fail
            obtain ⟨z1', y0'⟩ := HFC.out _ HBX.out
            go_quiet (fail)
            obtain ⟨wb, hwb⟩ : ∃ wb, wb = wa.drewN nq := ⟨_, rfl⟩
            have HBW : Hid (Below V.heap.size V wb) := by rw [hwb]; exact below_drewN HBX.out _
            rw [← hwb]
            clear hwb z1 z1' y0' HBX HBQ
            try clear y2'
            try clear y2
            try clear y0
            go_upto_region 12 with fail
            have HI : Hid (i < n) := hi
            obtain ⟨wd, hwd⟩ : ∃ wd, wd = wb.drew := ⟨_, rfl⟩
            have HBD : Hid (Below V.heap.size V wd) := by rw [hwd]; exact Below.drew HBW.out
            have hlp : (i : Int) < (n : Int) := hil
            have rowD : RowB wd (w.heap.size + 1) 25 (tarr 3 Bn2 nt dn2 B2 tp.length d2) := by have := HRD.out.2.2.2.1.below HBD.out HLTV.out; rw [← HNT2.out] at this; exact this
            have q0 := (HBD.out.cell (p := ⟨g0, o0 + i, none⟩) hg0).trans HC0.out
            have q1 := (HBD.out.cell (p := ⟨g, o + i * 3, none⟩) hg1).trans HC1.out.1
            have q2 := (HBD.out.cell (p := ⟨g, o + i * 3 + 1, none⟩) hg1).trans HC1.out.2.1
            have q3 := (HBD.out.cell (p := ⟨g, o + i * 3 + 2, none⟩) hg1).trans HC1.out.2.2
            have hlt0 : g0 < wd.heap.size := Nat.lt_of_lt_of_le hg0 HBD.out.size
            have hlt1 : g < wd.heap.size := Nat.lt_of_lt_of_le hg1 HBD.out.size
            have hTD : w.heap.size + 1 < wd.heap.size := rowD.lt
            have CW := with_any wd tn tp _ _ Bn2 dn2 B2 d2 a x p En en E e3 ((TI_iff.1 (HRD.out.2.2.1.below HBD.out)).1) ((TI_iff.1 (HRD.out.2.2.1.below HBD.out)).2) (HTI.out.below HBD.out) HNT.out.2 (by rw [← HNT2.out]; exact han) (by have := HNT.out.1; omega) HZ.out
            rw [← HNT2.out] at CW
            have CWI := Lib.hid CW
            have HREC2 := Lib.hid (rec_ins HRD.out.1 HX.out HP.out HL.out HNX.out)
            have HND2 := Lib.hid (nodup_next HX.out HRD.out.2.1 (fun h => ins_no HRD.out.1.rise HL.out HNX.out ((rec_names HRD.out.1 (by rw [List.length_take, List.length_take, HE.out]) x).2 h)))
            have HFRD : Hid (Fr (w.heap.size + 1) W.heap.size W wd) := HRD.out.2.2.2.2.step (.of HBD.out)
            obtain ⟨tn2, htn2⟩ : ∃ l, l = insAt tn a x := ⟨_, rfl⟩
            obtain ⟨tp2, htp2⟩ : ∃ l, l = insAt tp a p := ⟨_, rfl⟩
            simp only [names_mk, parts_mk] at HREC2
            rw [← htn2, ← htp2] at CWI HREC2
            obtain ⟨kp, np, pp⟩ := p
            simp only [tv, kind_mk, names_mk, parts_mk] at CWI q1 q2 q3
            obtain ⟨j, hj⟩ : ∃ j, j = i + 1 := ⟨_, rfl⟩
            rw [← hj] at HREC2 HND2
            clear CW htn2 htp2 HL HNX HRD HC0 HC1 HZT HFC HTI HX HP HNV HTV HNTN HZ HBW
            refine wp_region_G (S := SG (fun w' => Fr (w.heap.size + 1) wd.heap.size wd w') 11 (fun w' => ∀ j, w'.cell? ⟨w.heap.size + 1, j, none⟩ = (tarr 3 Bn2 nt dn2 B2 tp.length d2)[j]?) 11 (fun _ => True)) (by kernel_rfl) (by rw [← hwd]; exact ⟨Fr.refl _ _ _, fun _ => rowD.cell, fun _ => trivial⟩) (fun hS => ?_)
            rw [← hwd] at hS ⊢
            clear hwd
            refine wpG_take1 (i := 0) (v := ?v11) rfl (by kernel_rfl) (by kernel_rfl) (by kernel_rfl) (by decide) (by decide) (by kernel_rfl) (by kernel_rfl) (fun _ _ _ h => h) hS (Or.inl ⟨by rfl, ?hy11⟩) ?rest11
            case hy11 => (intro w' hw; (try dsimp only at hw); obtain ⟨_, u9⟩ := hw; go_simp; try with_reducible rfl)
            replace hS := SG.set (i := 0) (by decide) (by decide) hS
            try simp only [Act.put, List.setIfInBounds_toArray, List.set_cons_zero, List.set_cons_succ]
            refine wpG_take0 (i := 1) (v := ?v12) rfl (by kernel_rfl) (by kernel_rfl) (by kernel_rfl) (by decide) (by decide) (fun _ _ _ h => h) hS (Or.inl ⟨by rfl, ?hy12⟩) ?rest12
            case hy12 => (intro w' hw; (try dsimp only at hw); have u0 := (hw.cell (p := ⟨g0, o0 + i, none⟩) hlt0 hne0).trans q0; have u1 := (hw.cell (p := ⟨g, o + i * 3, none⟩) hlt1 hne1).trans q1; have u2 := (hw.cell (p := ⟨g, o + i * 3 + 1, none⟩) hlt1 hne1).trans q2; have u3 := (hw.cell (p := ⟨g, o + i * 3 + 2, none⟩) hlt1 hne1).trans q3; go_simp; try with_reducible rfl)
            replace hS := SG.set (i := 1) (by decide) (by decide) hS
            try simp only [Act.put, List.setIfInBounds_toArray, List.set_cons_zero, List.set_cons_succ]
            refine wpG_take0 (i := 2) (v := ?v13) rfl (by kernel_rfl) (by kernel_rfl) (by kernel_rfl) (by decide) (by decide) (fun _ _ _ h => h) hS (Or.inl ⟨by rfl, ?hy13⟩) ?rest13
            case hy13 => (intro w' hw; (try dsimp only at hw); have u0 := (hw.cell (p := ⟨g0, o0 + i, none⟩) hlt0 hne0).trans q0; have u1 := (hw.cell (p := ⟨g, o + i * 3, none⟩) hlt1 hne1).trans q1; have u2 := (hw.cell (p := ⟨g, o + i * 3 + 1, none⟩) hlt1 hne1).trans q2; have u3 := (hw.cell (p := ⟨g, o + i * 3 + 2, none⟩) hlt1 hne1).trans q3; go_simp; try with_reducible rfl)
            replace hS := SG.set (i := 2) (by decide) (by decide) hS
            try simp only [Act.put, List.setIfInBounds_toArray, List.set_cons_zero, List.set_cons_succ]
            refine wpG_take0 (i := 3) (v := ?v14) rfl (by kernel_rfl) (by kernel_rfl) (by kernel_rfl) (by decide) (by decide) (fun _ _ _ h => h) hS (Or.inl ⟨by rfl, ?hy14⟩) ?rest14
            case hy14 => (intro w' hw; (try dsimp only at hw); have u0 := (hw.cell (p := ⟨g0, o0 + i, none⟩) hlt0 hne0).trans q0; have u1 := (hw.cell (p := ⟨g, o + i * 3, none⟩) hlt1 hne1).trans q1; have u2 := (hw.cell (p := ⟨g, o + i * 3 + 1, none⟩) hlt1 hne1).trans q2; have u3 := (hw.cell (p := ⟨g, o + i * 3 + 2, none⟩) hlt1 hne1).trans q3; go_simp; try with_reducible rfl)
            replace hS := SG.set (i := 3) (by decide) (by decide) hS
            try simp only [Act.put, List.setIfInBounds_toArray, List.set_cons_zero, List.set_cons_succ]
            refine wpG_take0 (i := 4) (v := ?v15) rfl (by kernel_rfl) (by kernel_rfl) (by kernel_rfl) (by decide) (by decide) (fun _ _ _ h => h) hS (Or.inl ⟨by rfl, ?hy15⟩) ?rest15
            case hy15 => (intro w' hw; (try dsimp only at hw); have u0 := (hw.cell (p := ⟨g0, o0 + i, none⟩) hlt0 hne0).trans q0; have u1 := (hw.cell (p := ⟨g, o + i * 3, none⟩) hlt1 hne1).trans q1; have u2 := (hw.cell (p := ⟨g, o + i * 3 + 1, none⟩) hlt1 hne1).trans q2; have u3 := (hw.cell (p := ⟨g, o + i * 3 + 2, none⟩) hlt1 hne1).trans q3; go_simp; try with_reducible rfl)
            replace hS := SG.set (i := 4) (by decide) (by decide) hS
            try simp only [Act.put, List.setIfInBounds_toArray, List.set_cons_zero, List.set_cons_succ]
            refine wpG_take0 (i := 5) (v := ?v16) rfl (by kernel_rfl) (by kernel_rfl) (by kernel_rfl) (by decide) (by decide) (fun _ _ _ h => h) hS (Or.inl ⟨by rfl, ?hy16⟩) ?rest16
            case hy16 => (intro w' hw; (try dsimp only at hw); have u0 := (hw.cell (p := ⟨g0, o0 + i, none⟩) hlt0 hne0).trans q0; have u1 := (hw.cell (p := ⟨g, o + i * 3, none⟩) hlt1 hne1).trans q1; have u2 := (hw.cell (p := ⟨g, o + i * 3 + 1, none⟩) hlt1 hne1).trans q2; have u3 := (hw.cell (p := ⟨g, o + i * 3 + 2, none⟩) hlt1 hne1).trans q3; go_simp; try with_reducible rfl)
            replace hS := SG.set (i := 5) (by decide) (by decide) hS
            try simp only [Act.put, List.setIfInBounds_toArray, List.set_cons_zero, List.set_cons_succ]
            refine wpG_take0 (i := 6) (v := ?v17) rfl (by kernel_rfl) (by kernel_rfl) (by kernel_rfl) (by decide) (by decide) (fun _ _ _ h => h) hS (Or.inl ⟨by rfl, ?hy17⟩) ?rest17
            case hy17 => (intro w' hw; (try dsimp only at hw); have u0 := (hw.cell (p := ⟨g0, o0 + i, none⟩) hlt0 hne0).trans q0; have u1 := (hw.cell (p := ⟨g, o + i * 3, none⟩) hlt1 hne1).trans q1; have u2 := (hw.cell (p := ⟨g, o + i * 3 + 1, none⟩) hlt1 hne1).trans q2; have u3 := (hw.cell (p := ⟨g, o + i * 3 + 2, none⟩) hlt1 hne1).trans q3; go_simp; try with_reducible rfl)
            replace hS := SG.set (i := 6) (by decide) (by decide) hS
            try simp only [Act.put, List.setIfInBounds_toArray, List.set_cons_zero, List.set_cons_succ]
            refine wpG_take0 (i := 7) (v := ?v18) rfl (by kernel_rfl) (by kernel_rfl) (by kernel_rfl) (by decide) (by decide) (fun _ _ _ h => h) hS (Or.inl ⟨by rfl, ?hy18⟩) ?rest18
            case hy18 => (intro w' hw; (try dsimp only at hw); have u0 := (hw.cell (p := ⟨g0, o0 + i, none⟩) hlt0 hne0).trans q0; have u1 := (hw.cell (p := ⟨g, o + i * 3, none⟩) hlt1 hne1).trans q1; have u2 := (hw.cell (p := ⟨g, o + i * 3 + 1, none⟩) hlt1 hne1).trans q2; have u3 := (hw.cell (p := ⟨g, o + i * 3 + 2, none⟩) hlt1 hne1).trans q3; go_simp; try with_reducible rfl)
            replace hS := SG.set (i := 7) (by decide) (by decide) hS
            try simp only [Act.put, List.setIfInBounds_toArray, List.set_cons_zero, List.set_cons_succ]
            refine wpG_take0 (i := 8) (v := ?v19) rfl (by kernel_rfl) (by kernel_rfl) (by kernel_rfl) (by decide) (by decide) (fun _ _ _ h => h) hS (Or.inl ⟨by rfl, ?hy19⟩) ?rest19
            case hy19 => (intro w' hw; (try dsimp only at hw); have u0 := (hw.cell (p := ⟨g0, o0 + i, none⟩) hlt0 hne0).trans q0; have u1 := (hw.cell (p := ⟨g, o + i * 3, none⟩) hlt1 hne1).trans q1; have u2 := (hw.cell (p := ⟨g, o + i * 3 + 1, none⟩) hlt1 hne1).trans q2; have u3 := (hw.cell (p := ⟨g, o + i * 3 + 2, none⟩) hlt1 hne1).trans q3; go_simp; try with_reducible rfl)
            replace hS := SG.set (i := 8) (by decide) (by decide) hS
            try simp only [Act.put, List.setIfInBounds_toArray, List.set_cons_zero, List.set_cons_succ]
            refine wpG_take0 (i := 9) (v := ?v20) rfl (by kernel_rfl) (by kernel_rfl) (by kernel_rfl) (by decide) (by decide) (fun _ _ _ h => h) hS (Or.inl ⟨by rfl, ?hy20⟩) ?rest20
            case hy20 => (intro w' hw; (try dsimp only at hw); have u0 := (hw.cell (p := ⟨g0, o0 + i, none⟩) hlt0 hne0).trans q0; have u1 := (hw.cell (p := ⟨g, o + i * 3, none⟩) hlt1 hne1).trans q1; have u2 := (hw.cell (p := ⟨g, o + i * 3 + 1, none⟩) hlt1 hne1).trans q2; have u3 := (hw.cell (p := ⟨g, o + i * 3 + 2, none⟩) hlt1 hne1).trans q3; go_simp; try with_reducible rfl)
            replace hS := SG.set (i := 9) (by decide) (by decide) hS
            try simp only [Act.put, List.setIfInBounds_toArray, List.set_cons_zero, List.set_cons_succ]
            refine wpG_ready (rs := [10]) (by kernel_rfl) (by simp) ?_
            refine RG.cons rfl rfl (fun K hK => ?_) RG.nil
            go_simp
            refine CWI.out.mono ?_
            rintro e w3 ⟨h3, An5, cn5, A5, c5, rfl, ht5⟩
            go_wp2_with fail
            have rowE := rowD.below h3 hTD
            refine hK.out _ _ ⟨Fr.of h3, fun _ => rowE.cell, fun _ => trivial⟩ (fun hS => ?_)
            clear hK K
            try simp only [Act.put, List.setIfInBounds_toArray, List.set_cons_zero, List.set_cons_succ]
            refine wpG_ready (rs := [11]) (by kernel_rfl) (by simp) ?_
            refine RG.cons rfl rfl (fun K hK => ?_) RG.nil
            have zt1 := rowE.cell
            have zt1t := rowE.thaw
            go_simp
            clear zt1 zt1t
            refine hK.out _ _ ⟨(((Fr.of h3).put 0 _).put 1 _).put 2 _, fun h => absurd (h : true = false) (by decide), fun _ => trivial⟩ (fun hS => ?_)
            clear hK K
            try simp only [Act.put, List.setIfInBounds_toArray, List.set_cons_zero, List.set_cons_succ]
            refine wpG_done (by kernel_rfl) ?_ _
            have HF3 := HFRD.out.trans ((Fr.of (rb := w.heap.size + 1) h3).mono HFRD.out.size)
            have HNEW : Hid (RD w W P ns ps j (((w3.setCell ⟨w.heap.size + 1, 0, none⟩ (.int .i64 3)).setCell ⟨w.heap.size + 1, 1, none⟩ (.slice An5 tn2.length cn5)).setCell ⟨w.heap.size + 1, 2, none⟩ (.slice A5 tp2.length c5)) tn2 tp2 An5 cn5 A5 c5) := by
              refine ⟨HREC2.out, HND2.out, ht5.put3 (fun g hg => ?_) _ _ _, ((rowE.put 0 _).put 1 _).put 2 _, ((HF3.put 0 _).put 1 _).put 2 _⟩
              rcases hg with (hg | hg) | hg
              · refine ⟨hg, ?_⟩
                rcases hg with h | h
                · have := h.2; omega
                · omega
              · exact ⟨.inl hg, by have := hg.2; omega⟩
              · exact ⟨.inr (by omega), by omega⟩
            clear hS CWI rowD rowE h3 ht5 HF3 HFRD HREC2 HND2
            go_wp2_with fail
            go_roundg (n - j)
            case measure => omega
            case rel => exact ⟨j, by rw [hj]; go_num, by omega, by omega, _, _, _, _, _, _, HNEW.out⟩
      · have hil : ¬ (i : Int) < (n : Int) := by omega
        obtain rfl : i = n := by omega
        clear hi
        have h0 := HRD.out
        unfold RD at h0
        rw [List.take_of_length_le (Nat.le_of_eq HN.out.symm), List.take_of_length_le (by rw [← HE.out]; exact Nat.le_of_eq HN.out.symm)] at h0
        obtain ⟨hrec, hnd, hti, hrow, hfr⟩ := h0
        have HREC := Lib.hid hrec
        have HND := Lib.hid hnd
        have HTI := Lib.hid hti
        have Y2 := Lib.hid (hfr.row Y0.out (by have := hTW.out; omega) (Nat.ne_of_lt (Nat.lt_succ_self _)))
        have HB2 : Hid (Below w.heap.size w V) := HB.out.trans (hfr.below (by have := hTW.out; omega) (Nat.le_succ _))
        have z0 := Y2.out.cell
        have z0t := Y2.out.thaw
        have z1 := hrow.cell
        clear hrec hnd hti hrow hfr HRD
        go_wp2_with fail
        refine bodyPost_ret (v := .tuple #[.agg #[.int .i64 3, .slice Bn2 tn.length dn2, .slice B2 tp.length d2], .int .i64 0]) ?_ rfl ⟨.mk 3 tn tp, Bn2, dn2, B2, d2, 0, rfl, HTI.out.put3 (fun g hg => ?_) _ _ _, below_put3 HB2.out (Nat.le_refl _) _ _ _, .inr (.inr ⟨rfl, HE.out, HND.out, HREC.out⟩)⟩
        · simp [results, Tryz.results27, go_sem, z0]
          try first | rfl | exact ⟨rfl, rfl⟩
        · rcases hg with h | h
          · exact ⟨.inl h.1, by have := h.2; omega⟩
          · exact ⟨.inr (by omega), by omega⟩
end Tm
end Go.Proofs.YtifkjngclkklfaaGreatDoor
