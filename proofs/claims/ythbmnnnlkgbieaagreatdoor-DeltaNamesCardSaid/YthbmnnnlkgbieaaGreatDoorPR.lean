/- Contracts: the edits between two lists of tokens. -/
import Derived.Test.YthbmnnnlkgbieaaGreatDoorPQ2
import Derived.Test.YthbmnnnlkgbieaaGreatDoorME1
import Derived.Test.YthbmnnnlkgbieaaGreatDoorMA1
namespace Go.Proofs.YthbmnnnlkgbieaaGreatDoor
open Go.RowKit Go.Op

/-- Strings put together. -/
def cat (l : List ByteArray) : ByteArray := ⟨(Lib.join (l.map (·.data.toList)) []).toArray⟩
/-- The edits of gaps. -/
def edOf (u v : List ByteArray) (g : Dl.Gap) : Ed := ⟨szs (u.take g.fo), szs (u.take g.eo), cat ((v.drop g.fn).take (g.en - g.fn))⟩
def edsOf (u v : List ByteArray) (G : List Dl.Gap) : List Ed := G.map (edOf u v)
def ecells (es : List Ed) : List Value := es.flatMap fun e => [.int .i64 e.f, .int .i64 e.t, .string e.x]
theorem ecells_snoc (es : List Ed) (e : Ed) : ecells (es ++ [e]) = ecells es ++ [.int .i64 e.f, .int .i64 e.t, .string e.x] := by simp [ecells]
theorem info38 : (Tryz.prog.info? 38).map (fun i => (i.zero, i.size, i.bytes)) = some (some (.agg #[.int .i64 0, .int .i64 0, .string ⟨#[]⟩]), 3, 32) := by kernel_rfl

theorem join_flat : ∀ L : List (List UInt8), Lib.join L [] = L.flatten
  | [] => rfl
  | [x] => by simp [Lib.join]
  | x :: y :: r => by
    have := join_flat (y :: r)
    simp only [Lib.join, List.flatten_cons] at *
    simp [this]
theorem cat_size (l : List ByteArray) : (Lib.join (l.map (·.data.toList)) []).length = szs l := by
  rw [join_flat, List.length_flatten, szs, List.map_map]
  congr 1
theorem joinp_any (l : List ByteArray) (A : Option Addr) (cap : Nat) (w : World) (hA : Strs w w.heap.size A l) (hl : l.length ≤ 100000) (hcap : l.length ≤ cap) (hz : szs l ≤ 1000000000) :
    Calls Tryz.prog 24 #[.slice A l.length cap, .string ⟨#[]⟩] w fun e w' => e = .returned (.string (cat l)) ∧ Below w.heap.size w w' := by
  by_cases h0 : 0 < l.length
  · obtain ⟨g, off, rfl, hlt, hc⟩ := hA h0
    exact sh_strings_Join g off cap l ⟨#[]⟩ w (fun j x hx => by
      obtain ⟨hj, e⟩ := List.getElem?_eq_some_iff.1 hx
      rw [hc j hj, e]) hlt (by omega) hcap (by have := cat_size l; show (Lib.join (l.map (·.data.toList)) []).length ≤ _; omega)
  · obtain rfl : l = [] := List.length_eq_zero_iff.1 (by omega)
    exact (sh_strings_Join_none A cap ⟨#[]⟩ w).mono fun e w' ⟨he, hw⟩ => ⟨he, hw ▸ Below.refl _ _⟩

/-- What Between comes to. -/
def BetP (la lb : List Tok) (w : World) (e : Ending) (w' : World) : Prop :=
  ∃ G v, Ap (unitsL la) (unitsL lb) G ∧ e = .returned v ∧ w'.ownsRow w.heap.size 38 3 v (edsOf (unitsL la) (unitsL lb) (Dl.few G)).length (ecells (edsOf (unitsL la) (unitsL lb) (Dl.few G))) ∧ Below w.heap.size w w'

theorem Ap.way {a b : List ByteArray} {G : List Dl.Gap} (h : Ap a b G) : Dl.Way (bs a) (bs b) 0 0 G := by
  rcases h with ⟨h, _⟩ | ⟨p, x, y, hM, rfl, hbig⟩
  · exact h.way
  · refine hM.way_one (fun ⟨h1, h2⟩ => ?_)
    rw [h1, Nat.sub_self, Nat.zero_mul] at hbig
    omega
theorem Ap.sep {a b : List ByteArray} {G : List Dl.Gap} (h : Ap a b G) : Dl.Sep (Dl.few G) := by
  have hG : Dl.Sep G := by
    rcases h with ⟨_, h⟩ | ⟨p, x, y, hM, rfl, hbig⟩
    · exact h
    · trivial
  unfold Dl.few
  split
  · trivial
  · exact hG
theorem few_in {u v : List ByteArray} {G : List Dl.Gap} (h : Ap u v G) : ∀ g ∈ Dl.few G, g.fo ≤ g.eo ∧ g.fn ≤ g.en ∧ g.eo ≤ u.length ∧ g.en ≤ v.length := fun g hg => by
  have := h.way.few.out g hg
  rw [bs_len, bs_len] at this
  omega

/-- What is held while an edit is laid behind the others: a block that is read. -/
abbrev HeldE (b1 : Nat) (A1 : Array Value) (w' : World) : Prop := (∀ o, w'.cell? ⟨b1, o, none⟩ = A1[o]?) ∧ b1 < w'.heap.size
theorem HeldE.call {b1 : Nat} {A1 : Array Value} {w' w2 : World} (h : HeldE b1 A1 w') (hb : Below w'.heap.size w' w2) : HeldE b1 A1 w2 :=
  ⟨fun o => (hb.cell (p := ⟨b1, o, none⟩) h.2).trans (h.1 o), Nat.lt_of_lt_of_le h.2 hb.size⟩
theorem HeldE.alloc {b1 : Nat} {A1 : Array Value} {w' : World} (h : HeldE b1 A1 w') (o : Obj) : HeldE b1 A1 (w'.alloc o) := h.call (bel1 w' o)
theorem HeldE.grown {b1 : Nat} {A1 : Array Value} {w' w2 : World} {r : Option Nat} (h : HeldE b1 A1 w') (hg : w'.grownBy w2 r) (n1 : some b1 ≠ r) : HeldE b1 A1 w2 :=
  ⟨fun o => (cell_of_heap (hg.block b1 h.2 n1)).trans (h.1 o), Nat.lt_of_lt_of_le h.2 hg.size⟩

set_option maxHeartbeats 8000000 in
set_option maxRecDepth 100000 in
theorem between_any (la lb : List Tok) (A B : Option Addr) (ca cb : Nat) (w : World) (hA : TokAt w A la) (hB : TokAt w B lb) (hla : la.length ≤ 4000) (hlb : lb.length ≤ 4000) (hca : la.length ≤ ca) (hcb : lb.length ≤ cb)
    (hsa : ∀ s ∈ unitsL la, s.size ≤ maxLen) (hsb : ∀ s ∈ unitsL lb, s.size ≤ maxLen) (hza : szs (unitsL la) ≤ 1000000000) (hzb : szs (unitsL lb) ≤ 1000000000) :
    Calls Tryz.prog 9 #[.slice A la.length ca, .slice B lb.length cb] w fun e w' => BetP la lb w e w' := by
  have HA := Lib.hid hA
  have HB := Lib.hid hB
  have HSA := Lib.hid hsa
  have HSB := Lib.hid hsb
  have hlu := unitsL_len la
  have hlv := unitsL_len lb
  have CU := Lib.hid (units_any la A ca w hA hla hca)
  clear hA hB hsa hsb
  go_enter Tryz.func9, Tryz.ntmps9
  go_wp2_with fail
  refine CU.out.mono ?_
  rintro e w1 ⟨v1, rfl, hO1, hb1⟩
  obtain ⟨A1, c1, rfl, hc1⟩ := own_frm hO1
  have HO1 := Lib.hid hO1
  have HB1 := Lib.hid hb1
  have CU2 := Lib.hid (units_any lb B cb w1 (HB.out.below hb1) hlb hcb)
  clear hO1 hb1 CU
  go_wp2_with fail
  refine CU2.out.mono ?_
  rintro e w2 ⟨v2, rfl, hO2, hb2⟩
  obtain ⟨A2, c2, rfl, hc2⟩ := own_frm hO2
  have hS1 := (strs_of_own (own_bel HO1.out hb2)).1
  have hS2 := (strs_of_own hO2).1
  have HS1 := Lib.hid hS1
  have HS2 := Lib.hid hS2
  have CA := Lib.hid (apart_any (unitsL la) (unitsL lb) A1 A2 c1 c2 w2 hS1 hS2 (by omega) (by omega) hc1 hc2 HSA.out HSB.out)
  have HB2 := Lib.hid (step_bel HB1.out hb2)
  clear hO2 hb2 CU2 hS1 hS2 HO1
  go_wp2_with fail
  refine CA.out.mono ?_
  rintro e w3 ⟨G, v3, rfl, hO3, hAp, hin, hGl, hb3⟩
  obtain ⟨A3, c3, rfl, hc3⟩ := own_frm hO3
  have HO3 := Lib.hid hO3
  have HAP := Lib.hid hAp
  have HIN := Lib.hid (few_in hAp)
  have HB3 := Lib.hid (step_bel HB2.out hb3)
  have HT1 := Lib.hid ((HS1.out.below hb3).more hb3.size)
  have HT2 := Lib.hid ((HS2.out.below hb3).more hb3.size)
  have hfl := Dl.few_len G
  have hw23 : w2.heap.size ≤ w3.heap.size := hb3.size
  clear hO3 hb3 CA hAp hin HS1 HS2
  go_upto_if 25 with fail
  go_cut [7] from 26 to 36 (fun s7 wx => ∃ A4 c4, s7 = .slice A4 (Dl.few G).length c4 ∧ wx.ownsRow w2.heap.size 57 4 (.slice A4 (Dl.few G).length c4) (Dl.few G).length (gcells (Dl.few G)) ∧ Below w3.heap.size w3 wx)
  case first =>
    by_cases hbig : 512 < G.length
    · have hbi : (512 : Int) ≤ (G.length : Int) - 1 := by omega
      have hfe : Dl.few G = [⟨G[0].fo, G[0].fn, (G[G.length - 1]'(by omega)).eo, (G[G.length - 1]'(by omega)).en⟩] := by unfold Dl.few; rw [dif_pos hbig]
      obtain ⟨g0, eg, _, hgl, q0, q1, q2, q3⟩ := own_gap HO3.out 0 (by omega)
      obtain ⟨g1, eg1, _, hgl1, r0, r1, r2, r3⟩ := own_gap HO3.out (G.length - 1) (by omega)
      have eg2 : g1 = g0 := by rw [eg] at eg1; injection eg1 with h; injection h with h _ _; exact h.symm
      subst eg2
      subst eg
      generalize G[0] = ga at *
      generalize G[G.length - 1] = gz at *
      have HFE := Lib.hid hfe
      have t1 : ((G.length : Int) - 1).toNat = G.length - 1 := by omega
      have t2 : (0 : Int) ≤ (G.length : Int) - 1 := by omega
      have t3 : (G.length : Int) - 1 < (G.length : Int) := by omega
      have t4 : (0 : Int) < (G.length : Int) := by omega
      have t5 : 0 < G.length := by omega
      clear hfe eg1 hbig
      go_wp2_with fail
      go_region
      all_goals
        go_wp2_with fail
        go_meet
        have hlit := World.ownsRow_lit (base := w2.heap.size) (e := 57) (size := 4) w3 #[.int .i64 ga.fo, .int .i64 ga.fn, .int .i64 gz.eo, .int .i64 gz.en] 1 hw23 (by decide) rfl
        refine ⟨some ⟨w3.heap.size, 0, none⟩, 1, by rw [HFE.out]; rfl, ?_, (bel1 w3 _).drew⟩
        rw [HFE.out]
        exact hlit
    · have hbi : ¬ (512 : Int) ≤ (G.length : Int) - 1 := by omega
      have hfe : Dl.few G = G := by unfold Dl.few; rw [dif_neg hbig]
      have HFE := Lib.hid hfe
      clear hfe
      go_wp2_with fail
      go_meet
      exact ⟨A3, c3, by rw [HFE.out], by rw [HFE.out]; exact HO3.out, Below.refl _ _⟩
  case rest =>
  obtain ⟨A4, c4, rfl, hO4, hb4⟩ := hcut
  have HB4 := Lib.hid (step_bel HB3.out hb4)
  have HT1' := Lib.hid ((HT1.out.below hb4).more hb4.size)
  have HT2' := Lib.hid ((HT2.out.below hb4).more hb4.size)
  have HO4 := Lib.hid hO4
  have CP := Lib.hid (places_any (unitsL la) A1 c1 wc HT1'.out (by omega) hc1 hza)
  obtain ⟨F, hF⟩ : ∃ F, F = Dl.few G := ⟨_, rfl⟩
  rw [← hF] at hfl HIN HO4
  have HFG := Lib.hid hF
  rw [← hF]
  clear hO4 hb4 HT1 HT2 HO3 HB3 hF
  go_wp2_with fail
  refine CP.out.mono ?_
  rintro e w5 ⟨vb, g, rfl, hV, hgl, hpl, hb5⟩
  have HB5 := Lib.hid (step_bel HB4.out hb5)
  have HV := Lib.hid hV
  have HPL := Lib.hid hpl
  have HT5 := Lib.hid ((HT2'.out.below hb5).more hb5.size)
  have HO5 := Lib.hid (own_bel HO4.out hb5)
  clear hV hpl hb5 CP HT1' HT2' HO4
  go_wp2_with fail
  obtain ⟨i0, hi0, hz0, hz1, hz2⟩ := info_parts info38
  have hww5 : w.heap.size ≤ w5.heap.size := HB5.out.size
  go_loopg [10, 41] (F.length + 1) (fun kx v x wr => ∃ (k : Nat) (u : Value), u = v ∧ x = .int .i64 k ∧ k ≤ F.length ∧ F.length - k ≤ kx ∧ Hid (wr.ownsRow w5.heap.size 38 3 v (edsOf (unitsL la) (unitsL lb) (F.take k)).length (ecells (edsOf (unitsL la) (unitsL lb) (F.take k)))) ∧ Hid (Below w5.heap.size w5 wr))
  case atStart => exact ⟨0, _, rfl, rfl, by omega, by omega, World.ownsRow_nil _ _ _ _, Below.refl _ _⟩
  case round =>
    obtain ⟨k, u, rfl, rfl, hk, hkx, HOk, HBk⟩ := hrel
    by_cases hlt : k < F.length
    · obtain ⟨gg0, eg, _, hgl0, q0, q1, q2, q3⟩ := own_gap HO5.out k hlt
      subst eg
      have z0 := (HBk.out.cell (p := ⟨gg0, k * 4, none⟩) hgl0).trans q0
      have z1 := (HBk.out.cell (p := ⟨gg0, k * 4 + 1, none⟩) hgl0).trans q1
      have z2 := (HBk.out.cell (p := ⟨gg0, k * 4 + 2, none⟩) hgl0).trans q2
      have z3 := (HBk.out.cell (p := ⟨gg0, k * 4 + 3, none⟩) hgl0).trans q3
      obtain ⟨y1, y2, y3, y4⟩ := HIN.out _ (List.getElem_mem hlt)
      have hgk := List.take_succ_eq_append_getElem hlt
      generalize F[k] = gk at *
      have HGK := Lib.hid hgk
      have hwr5 := HBk.out.size
      have HTr := Lib.hid (((HT5.out.below HBk.out).more hwr5).below (bel1 wr (.cells #[.int .i64 gk.fo, .int .i64 gk.fn, .int .i64 gk.eo, .int .i64 gk.en] 57)))
      have R12 := Lib.hid (RowB.new wr 57 #[.int .i64 gk.fo, .int .i64 gk.fn, .int .i64 gk.eo, .int .i64 gk.en])
      have HOa := Lib.hid (HOk.out.alloc (.cells #[.int .i64 gk.fo, .int .i64 gk.fn, .int .i64 gk.eo, .int .i64 gk.en] 57))
      have HBa := Lib.hid (HBk.out.alloc hwr5 (.cells #[.int .i64 gk.fo, .int .i64 gk.fn, .int .i64 gk.eo, .int .i64 gk.en] 57))
      clear q0 q1 q2 q3 hgk
      obtain ⟨tx, htx⟩ : ∃ tx, tx = cat (((unitsL lb).drop gk.fn).take (gk.en - gk.fn)) := ⟨_, rfl⟩
      have hlp : (((unitsL lb).drop gk.fn).take (gk.en - gk.fn)).length = gk.en - gk.fn := by simp; omega
      have hzp : szs (((unitsL lb).drop gk.fn).take (gk.en - gk.fn)) ≤ 1000000000 := szs_part _ _ _ hzb
      have r12 := R12.out.cell
      have hwr1 : (wr.alloc (.cells #[.int .i64 gk.fo, .int .i64 gk.fn, .int .i64 gk.eo, .int .i64 gk.en] 57)).heap.size = wr.heap.size + 1 := by simp
      go_upto_region 11 with fail
      generalize wr.alloc (.cells #[.int .i64 gk.fo, .int .i64 gk.fn, .int .i64 gk.eo, .int .i64 gk.en] 57) = V0 at *
      go_cut [13] from 45 to 69 (fun s13 wx => s13 = .string tx ∧ Below V0.heap.size V0 wx)
      case first =>
        by_cases hcc : c2 = gk.fn
        · have hpe : gk.en - gk.fn = 0 := by omega
          have CJ := Lib.hid (joinp_any [] A2 0 V0 (fun h => by simp at h) (by simp) (by simp) (by simp [szs]))
          have htx2 : tx = cat [] := by rw [htx, hpe, List.take_zero]
          have HTX := Lib.hid htx2
          clear htx htx2
          subst hcc
          go_wp2_with fail
          refine CJ.out.mono ?_
          rintro e w6 ⟨rfl, hb6⟩
          have HB6 := Lib.hid hb6
          clear hb6
          go_wp2_with fail
          go_meet
          exact ⟨by rw [HTX.out], HB6.out⟩
        · have CJ := Lib.hid (joinp_any (((unitsL lb).drop gk.fn).take (gk.en - gk.fn)) (A2.map fun x => x.add gk.fn) (c2 - gk.fn) V0 ((HTr.out.more (by omega)).part (by omega)) (by omega) (by omega) hzp)
          rw [hlp, ← htx] at CJ
          clear htx
          go_wp2_with fail
          refine CJ.out.mono ?_
          rintro e w6 ⟨rfl, hb6⟩
          have HB6 := Lib.hid hb6
          clear hb6
          go_wp2_with fail
          go_meet
          exact ⟨rfl, HB6.out⟩
      case rest =>
      obtain ⟨rfl, hb6⟩ := hcut
      have HBc := Lib.hid (HBa.out.trans (hb6.mono (by omega)))
      have HOc := Lib.hid (own_bel HOa.out hb6)
      have R12c := Lib.hid (R12.out.below hb6 R12.out.lt)
      have hO1 : u.ownBlock ≠ some wr.heap.size := fun h => by have := (HOk.out.lt _ h).2; omega
      obtain ⟨r1, hr1⟩ : ∃ r1, r1 = szs ((unitsL la).take gk.fo) := ⟨_, rfl⟩
      obtain ⟨r2, hr2⟩ : ∃ r2, r2 = szs ((unitsL la).take gk.eo) := ⟨_, rfl⟩
      have hwc := HBc.out.size
      have C45 : Hid (∀ (x r : Int) (w' : World), Below wc.heap.size wc w' → ((x = gk.fo ∧ r = r1) ∨ (x = gk.eo ∧ r = r2)) → Calls Tryz.prog 45 #[.int .i64 x, .pointer (some ⟨vb, 0, none⟩)] w' fun e w'' => e = .returned (.int .i64 r) ∧ Below w'.heap.size w' w'') := by
        intro x r w' hb hh
        have hb5 := HBc.out.trans (hb.mono hwc)
        have hc := fun i (hi : i ≤ (unitsL la).length) => (hb5.cell (p := ⟨g, i, none⟩) hgl).trans (HPL.out i hi)
        rcases hh with ⟨rfl, rfl⟩ | ⟨rfl, rfl⟩
        · rw [hr1]; exact place_any (unitsL la) vb g gk.fo w' (HV.out.below hb5 HV.out.lt) hc (by omega) (by omega)
        · rw [hr2]; exact place_any (unitsL la) vb g gk.eo w' (HV.out.below hb5 HV.out.lt) hc (by omega) (by omega)
      have hNk : (edsOf (unitsL la) (unitsL lb) (F.take k)).length ≤ 512 := by
        rw [edsOf, List.length_map, List.length_take]; omega
      have hes : edsOf (unitsL la) (unitsL lb) (F.take (k + 1)) = edsOf (unitsL la) (unitsL lb) (F.take k) ++ [⟨r1, r2, tx⟩] := by
        rw [HGK.out, edsOf, List.map_append, List.map_cons, List.map_nil, edOf, ← hr1, ← hr2, ← htx]
        rfl
      have HES := Lib.hid hes
      clear hes htx hr1 hr2 hb6
      generalize edsOf (unitsL la) (unitsL lb) (F.take k) = E at *
      have HS0 : HeldE wr.heap.size #[.int .i64 gk.fo, .int .i64 gk.fn, .int .i64 gk.eo, .int .i64 gk.en] wc.drew := ⟨R12c.out.cell, R12c.out.lt⟩
      have HB0 : Below wc.heap.size wc wc.drew := (Below.refl _ _).drew
      have b3 : E.length + 1 ≤ maxLen := by unfold maxLen; omega
      have b4s : (E.length + 1) * 32 ≤ 140737488355328 := by omega
      have r12c := R12c.out.cell
      clear r12 hwr1 hlp hzp
      go_wp2_with fail
      go_region_held3 (fun w' => (∀ o, w'.cell? ⟨wr.heap.size, o, none⟩ = #[Value.int .i64 gk.fo, .int .i64 gk.fn, .int .i64 gk.eo, .int .i64 gk.en][o]?) ∧ wr.heap.size < w'.heap.size)
        (first
          | (with_reducible exact HS0)
          | (with_reducible exact HeldE.call (by assumption) hbn)
          | (with_reducible exact HeldE.alloc (by assumption) _)
          | (with_reducible exact HeldE.grown (by assumption) hgrow hO1.symm))
        (first
          | (go_at_call 45; refine (C45.out _ _ _ (by first | exact hbX | exact HB0) (by first | exact Or.inl ⟨rfl, rfl⟩ | exact Or.inr ⟨rfl, rfl⟩)).mono ?_; rintro e w' ⟨rfl, hbn⟩; have hbX := step_bel (by first | exact hbX | exact HB0) hbn)
          | (refine step_append_lies _ (by rfl) (.tmp 54) (.tmp 67) 26 (by rfl) w5.heap.size 38 i0 _ 3 32 Tryz.underlying26 hi0 hz0 hz1 hz2 rfl (by omega) u E.length (ecells E) (by rfl) ((own_bel HOc.out hbX).alloc _) ⟨w'.heap.size, 0, none⟩ 1 1 [.int .i64 r1, .int .i64 r2, .string tx] (by rfl) (by rfl) (World.news_of_block (heap_new w' (.cells #[.int .i64 r1, .int .i64 r2, .string tx] 38))) (by simp [Value.oneCell'])
              (by omega) b3 b4s (by have := hbX.size; simp; omega) (w'.heap.size + 1) (by simp) ?_; intro gg cap' w3' hown3 hgrow hat hlt3))
      have hown4 : w3'.ownsRow w5.heap.size 38 3 (.slice (some ⟨gg, 0, none⟩) (E.length + 1) cap') (edsOf (unitsL la) (unitsL lb) (F.take (k + 1))).length (ecells (edsOf (unitsL la) (unitsL lb) (F.take (k + 1)))) := by
        rw [HES.out, ecells_snoc, List.length_append]
        exact hown3
      have HO6 := Lib.hid hown4
      have hbw : w5.heap.size ≤ w'.heap.size := by have := hbX.size; omega
      have HB6 := Lib.hid (((step_bel HBc.out hbX).alloc hbw (.cells #[.int .i64 r1, .int .i64 r2, .string tx] 38)).grown hgrow (by simp; omega) (fun j hj => (HOc.out.lt j hj).1))
      clear hown3 hown4 hgrow hat HS0 HB0 hbX hbn
      go_wp2_with fail
      go_roundg (F.length - (k + 1))
      case measure => omega
      case rel => exact ⟨k + 1, _, rfl, by go_num, by omega, by omega, HO6.out, HB6.out⟩
    · obtain rfl : k = F.length := by omega
      have hOf := HOk.out
      rw [List.take_length] at hOf
      have HR : Hid (BetP la lb w (.returned u) wr) := ⟨G, u, HAP.out, rfl, by rw [← HFG.out]; exact Joins.ownsRow_le hOf hww5, HB5.out.trans (HBk.out.mono hww5)⟩
      have hnl : ¬ (F.length : Int) < (F.length : Int) := by omega
      clear hOf
      go_wp2
      go_ret
      exact HR.out
end Go.Proofs.YthbmnnnlkgbieaaGreatDoor
