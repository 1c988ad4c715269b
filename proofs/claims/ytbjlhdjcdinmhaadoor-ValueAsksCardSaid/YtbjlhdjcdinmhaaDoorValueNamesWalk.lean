/- The law ValueNames, walked. -/
import Derived.Test.YtbjlhdjcdinmhaaDoorValueMakesWalk
import Derived.Test.YtbjlhdjcdinmhaaDoorRD
import Derived.Test.YtbjlhdjcdinmhaaDoorRJ
namespace Go.Proofs.YtbjlhdjcdinmhaaDoor
open Go.RowKit Go.Op
namespace Vm
theorem rsame_one (t : Vl) (hc : t.cnt ≤ 1000001) (t' : Vl) (hc' : t'.cnt ≤ 1000001) (w : World) (P P' : Nat → Prop) (An : Option Addr) (cn : Nat) (A : Option Addr) (c : Nat) (Bn : Option Addr) (dn : Nat) (B : Option Addr) (d : Nat) (h : VI w P t An cn A c) (h' : VI w P' t' Bn dn B d) (e : t = t' := by rfl) :
    Calls Tryd.prog 16 #[vv t An cn A c, vv t' Bn dn B d] w fun e w' => e = .returned (.bool true) ∧ Below w.heap.size w w' := by
  have := rsame_any t hc t' hc' w P P' An cn A c Bn dn B d h h'
  rw [e, same_refl] at this
  rw [e]
  exact this
theorem pright_one (t : Vl) (hr : t.right = true) (hc : t.cnt ≤ 1000001) (w : World) (P : Nat → Prop) (An : Option Addr) (cn : Nat) (A : Option Addr) (c : Nat) (h : VI w P t An cn A c) : Calls Tryd.prog 13 #[vv t An cn A c] w fun e w' => e = .returned (.bool true) ∧ Below w.heap.size w w' := by
  have := pright_any t hc w P An cn A c h
  rw [hr] at this
  exact this
set_option maxHeartbeats 16000000 in
set_option maxRecDepth 100000 in
theorem names_walk (w : World) (v : Vl) (P : Nat → Prop) (An : Option Addr) (cn : Nat) (A : Option Addr) (c : Nat) (h : VI w P v An cn A c) (f t : ByteArray) (hf : f.size ≤ 140737488351232) (ht : t.size ≤ 140737488351232) (hT : Tb w) :
    Calls Tryd.prog 5 #[vv v An cn A c, .string f, .string t] w fun e w' => e = .returned (.bool true) ∧ Below w.heap.size w w' := by
  obtain ⟨vh, vn, vp⟩ := v
  have HT := Lib.hid hT
  obtain ⟨W, hW⟩ : ∃ W, W = w.alloc (.cells (varr vh An vn.length cn A vp.length c) 25) := ⟨_, rfl⟩
  have b1 : Below w.heap.size w W := by rw [hW]; exact bel1 w _
  have R1 : Hid (RowB W w.heap.size 25 (varr vh An vn.length cn A vp.length c)) := by rw [hW]; exact RowB.new w 25 _
  have HV : Hid (VI W P (.mk vh vn vp) An cn A c) := h.below b1
  have HB := Lib.hid b1
  have C1 := Lib.hid (light_any W _ _ An cn A c HV.out)
  obtain ⟨l, hl⟩ : ∃ l, l = (Vl.mk vh vn vp).light := ⟨_, rfl⟩
  rw [← hl] at C1
  have HCN : Hid (l = true → (Vl.mk vh vn vp).cnt ≤ 1000001) := fun h => by
    have := (light_cnt (VI.nsz HV.out) (hl.symm.trans h)).2.1
    omega
  obtain ⟨rr, hrr⟩ : ∃ rr, rr = (Vl.mk vh vn vp).right := ⟨_, rfl⟩
  have HRR := Lib.hid hrr
  have CRR : Hid (l = true → ∀ w', Below W.heap.size W w' → Calls Tryd.prog 14 #[vv (.mk vh vn vp) An cn A c] w' fun e w2 => e = .returned (.bool rr) ∧ Below w'.heap.size w' w2) := fun h w' hb => by
    rw [HRR.out]
    exact rright_any _ (HCN.out h) w' _ An cn A c (HV.out.below hb)
  obtain ⟨m1, hm1⟩ : ∃ m, m = f.size := ⟨_, rfl⟩
  obtain ⟨m2, hm2⟩ : ∃ m, m = t.size := ⟨_, rfl⟩
  have HM1 := Lib.hid hm1
  have HM2 := Lib.hid hm2
  have hq : m1 ≤ 140737488351232 ∧ m2 ≤ 140737488351232 := by rw [hm1, hm2]; exact ⟨hf, ht⟩
  have HTS : Hid (t.size ≤ 140737488351232) := by unfold Hid; omega
  have HFS : Hid (f.size ≤ 140737488351232) := by unfold Hid; omega
  have q0 : IntKind.i64.wrap ((m1 : Int) + (m2 : Int)) = (m1 : Int) + (m2 : Int) := by rw [IntKind.wrap_i64]; omega
  rw [hm1, hm2] at q0
  have e1 := hW
  simp only [varr, vv, hd_mk, names_mk, parts_mk] at e1 C1 CRR
  have r1 := R1.out.cell
  clear h hT hf ht hW b1 hl hrr
  go_enter Tryd.func5, Tryd.ntmps5
  go_wp2_with fail
  rw [← e1]
  clear e1
  refine C1.out.mono ?_
  rintro e w1 ⟨rfl, h1⟩
  have HX1 := Lib.hid h1
  have HB1 := Lib.hid (HB.out.trans (h1.mono HB.out.size))
  have r1 := (R1.out.below h1 R1.out.lt).cell
  clear h1 C1
  cases l with
  | false =>
    clear CRR
    have CA := Lib.hid (awake_any _ (HT.out.step HB1.out))
    go_wp2_with fail
    refine CA.out.mono ?_
    rintro e w9 ⟨rfl, hb9⟩
    have HB9 := Lib.hid (HB1.out.trans (hb9.mono HB1.out.size))
    clear hb9 CA
    go_wp2_with fail
    (first | go_ret | go_ret2)
    exact ⟨rfl, HB9.out⟩
  | true =>
  have HCV := Lib.hid (HCN.out (by first | rfl | trivial))
  have C2 := Lib.hid (CRR.out (by first | rfl | trivial) w1 HX1.out)
  clear HCN CRR
  go_wp2_with fail
  refine C2.out.mono ?_
  rintro e w2 ⟨rfl, h2⟩
  have HX2 := Lib.hid (HX1.out.trans (h2.mono HX1.out.size))
  have HB2 := Lib.hid (HB1.out.trans (h2.mono HB1.out.size))
  clear h2 C2 HX1 HB1 r1
  have r1 := (R1.out.below HX2.out R1.out.lt).cell
  cases rr with
  | false =>
    skip
    have CA := Lib.hid (awake_any _ (HT.out.step HB2.out))
    go_wp2_with fail
    refine CA.out.mono ?_
    rintro e w9 ⟨rfl, hb9⟩
    have HB9 := Lib.hid (HB2.out.trans (hb9.mono HB2.out.size))
    clear hb9 CA
    go_wp2_with fail
    (first | go_ret | go_ret2)
    exact ⟨rfl, HB9.out⟩
  | true =>
  have HR : Hid ((Vl.mk vh vn vp).right = true) := HRR.out.symm
  by_cases hs : m1 + m2 > 1000
  · have q1 : (f.size : Int) + (t.size : Int) > 1000 := by omega
    clear hs hm1 hm2 hq
    have CA := Lib.hid (awake_any _ (HT.out.step HB2.out))
    go_wp2_with fail
    refine CA.out.mono ?_
    rintro e w9 ⟨rfl, hb9⟩
    have HB9 := Lib.hid (HB2.out.trans (hb9.mono HB2.out.size))
    clear hb9 CA
    go_wp2_with fail
    (first | go_ret | go_ret2)
    exact ⟨rfl, HB9.out⟩
  have q1 : ¬ (f.size : Int) + (t.size : Int) > 1000 := by omega
  have C3 := Lib.hid (to_any _ HCV.out w2 _ An cn A c (HV.out.below HX2.out))
  simp only [vv, hd_mk, names_mk, parts_mk] at C3
  clear hs hm1 hm2 hq HRR
  go_wp2_with fail
  clear q0 q1
  refine C3.out.mono ?_
  rintro e w2 ⟨h2, Bn, dn, B, d, rfl, ht2⟩
  have HX2 := Lib.hid (HX2.out.trans (h2.mono HX2.out.size))
  have HB2 := Lib.hid (HB2.out.trans (h2.mono HB2.out.size))
  have C4 := pnamed_any f t HTS.out _ HCV.out w2 _ Bn dn B d ht2
  obtain ⟨o, ho⟩ : ∃ o, o = (Vl.mk vh vn vp).named f t := ⟨_, rfl⟩
  rw [← ho] at C4
  obtain ⟨a, ha⟩ : ∃ a, a = o.getD zero := ⟨_, rfl⟩
  obtain ⟨b, hb⟩ : ∃ b, b = o.isSome := ⟨_, rfl⟩
  unfold NmQ at C4
  rw [← ha, ← hb] at C4
  have HCA : Hid (a.cnt ≤ 1000001) := by
    unfold Hid
    rw [ha]
    cases o with
    | none => simp [zero, Vl.cnt, cntL]
    | some u => rw [show (some u).getD zero = u from rfl, named_cnt _ _ ho.symm]; exact HCV.out
  have HBK : Hid (b = true → (Vl.mk vh vn vp).has t = false → a.named t f = some (.mk vh vn vp) ∧ a.right = true) := fun h1 h2 => by
    cases o with
    | none => rw [hb] at h1; cases h1
    | some u => rw [ha]; exact named_back _ HR.out h2 u ho.symm
  have C5 : Hid (∀ w', Below W.heap.size W w' → Calls Tryd.prog 29 #[vv (.mk vh vn vp) An cn A c, .string f, .string t] w' fun e w2 => Below w'.heap.size w' w2 ∧ ∃ Cn fn C f', e = .returned (.tuple #[vv a Cn fn C f', .bool b]) ∧ VI w2 (fun _ => True) a Cn fn C f') := fun w' hbw => by
    have := rnamed_any f t HTS.out _ HR.out HCV.out w' _ An cn A c (HV.out.below hbw)
    unfold NmQ at this
    rw [← ho, ← ha, ← hb] at this
    refine this.mono ?_
    rintro e w2 ⟨h1, Cn, fn, C, f', h2, h3⟩
    exact ⟨h1, Cn, fn, C, f', h2, h3.mono fun _ _ => trivial⟩
  have HC4 := Lib.hid C4
  clear C3 ht2 h2 C4 ho ha hb
  obtain ⟨ah, an, ap⟩ := a
  simp only [vv, hd_mk, names_mk, parts_mk] at HC4 C5 ⊢
  go_wp2_with fail
  refine HC4.out.mono ?_
  rintro e w3 ⟨h3, Bn, dn, B, d, rfl, ht3⟩
  have HX3 := Lib.hid (HX2.out.trans (h3.mono HX2.out.size))
  have HB3 := Lib.hid (HB2.out.trans (h3.mono HB2.out.size))
  obtain ⟨w4, hw4⟩ : ∃ w4, w4 = w3.alloc (.cells (varr ah Bn an.length dn B ap.length d) 34) := ⟨_, rfl⟩
  have b4 : Below w3.heap.size w3 w4 := by rw [hw4]; exact bel1 w3 _
  have R7 : Hid (RowB w4 w3.heap.size 34 (varr ah Bn an.length dn B ap.length d)) := by rw [hw4]; exact RowB.new w3 34 _
  have HA4 : Hid (VI w4 (fun _ => True) (.mk ah an ap) Bn dn B d) := (ht3.below b4).mono fun _ _ => trivial
  have HX4 := Lib.hid (HX3.out.trans (b4.mono HX3.out.size))
  have HB4 := Lib.hid (HB3.out.trans (b4.mono HB3.out.size))
  have e4 := hw4
  simp only [varr] at e4
  have r1 := (R1.out.below HX4.out R1.out.lt).cell
  have C6 := Lib.hid (C5.out w4 HX4.out)
  clear h3 ht3 b4 hw4 HC4 HX3 HB3 C5
  go_upto_region 4 with fail
  rw [← e4]
  clear e4
  go_wp2_with fail
  refine C6.out.mono ?_
  rintro e w5 ⟨h5, Cn, fn, C, f', rfl, ht5⟩
  obtain ⟨w6, hw6⟩ : ∃ w6, w6 = w5.alloc (.cells (varr ah Cn an.length fn C ap.length f') 25) := ⟨_, rfl⟩
  have b6 : Below w5.heap.size w5 w6 := by rw [hw6]; exact bel1 w5 _
  have R9 : Hid (RowB w6 w5.heap.size 25 (varr ah Cn an.length fn C ap.length f')) := by rw [hw6]; exact RowB.new w5 25 _
  have h46 := h5.trans (b6.mono h5.size)
  have HC6 := Lib.hid (ht5.below b6)
  have HA6 := Lib.hid (HA4.out.below h46)
  have HX6 := Lib.hid (HX4.out.trans (h46.mono HX4.out.size))
  have HB6 := Lib.hid (HB4.out.trans (h46.mono HB4.out.size))
  have R76 := Lib.hid (R7.out.below h46 R7.out.lt)
  have e6 := hw6
  simp only [varr] at e6
  clear h5 ht5 b6 hw6 C6 h46 r1
  go_upto_region 5 with fail
  rw [← e6]
  clear e6
  have D6 : Below w6.heap.size w6 w6.drew := Below.drew (Below.refl _ _)
  have c7 := R76.out.cell
  have l7 := R76.out.lt
  have c9 := R9.out.cell
  have l9 := R9.out.lt
  refine wp_region_G (S := SG (fun w' => Below w6.heap.size w6 w') 99 (fun _ => True) 99 (fun _ => True)) (by kernel_rfl) ⟨D6, fun _ => trivial, fun _ => trivial⟩ (fun hS => ?_)
  refine wpG_take0 (i := 0) (v := ?v1) rfl (by kernel_rfl) (by kernel_rfl) (by kernel_rfl) (by decide) (by decide) (fun _ _ _ h => h) hS (Or.inl ⟨by rfl, ?hy1⟩) ?rest1
  case hy1 => (intro w' hw; (try dsimp only at hw); have u7 := fun j => (hw.cell (p := ⟨w3.heap.size, j, none⟩) l7).trans (c7 j); have u9 := fun j => (hw.cell (p := ⟨w5.heap.size, j, none⟩) l9).trans (c9 j); go_simp; try with_reducible rfl)
  replace hS := SG.set (i := 0) (by decide) (by decide) hS
  try simp only [Act.put, List.setIfInBounds_toArray, List.set_cons_zero, List.set_cons_succ]
  refine wpG_take0 (i := 1) (v := ?v2) rfl (by kernel_rfl) (by kernel_rfl) (by kernel_rfl) (by decide) (by decide) (fun _ _ _ h => h) hS (Or.inl ⟨by rfl, ?hy2⟩) ?rest2
  case hy2 => (intro w' hw; (try dsimp only at hw); have u7 := fun j => (hw.cell (p := ⟨w3.heap.size, j, none⟩) l7).trans (c7 j); have u9 := fun j => (hw.cell (p := ⟨w5.heap.size, j, none⟩) l9).trans (c9 j); go_simp; try with_reducible rfl)
  replace hS := SG.set (i := 1) (by decide) (by decide) hS
  try simp only [Act.put, List.setIfInBounds_toArray, List.set_cons_zero, List.set_cons_succ]
  refine wpG_take0 (i := 2) (v := ?v3) rfl (by kernel_rfl) (by kernel_rfl) (by kernel_rfl) (by decide) (by decide) (fun _ _ _ h => h) hS (Or.inl ⟨by rfl, ?hy3⟩) ?rest3
  case hy3 => (intro w' hw; (try dsimp only at hw); have u7 := fun j => (hw.cell (p := ⟨w3.heap.size, j, none⟩) l7).trans (c7 j); have u9 := fun j => (hw.cell (p := ⟨w5.heap.size, j, none⟩) l9).trans (c9 j); go_simp; try with_reducible rfl)
  replace hS := SG.set (i := 2) (by decide) (by decide) hS
  try simp only [Act.put, List.setIfInBounds_toArray, List.set_cons_zero, List.set_cons_succ]
  refine wpG_take0 (i := 3) (v := ?v4) rfl (by kernel_rfl) (by kernel_rfl) (by kernel_rfl) (by decide) (by decide) (fun _ _ _ h => h) hS (Or.inl ⟨by rfl, ?hy4⟩) ?rest4
  case hy4 => (intro w' hw; (try dsimp only at hw); have u7 := fun j => (hw.cell (p := ⟨w3.heap.size, j, none⟩) l7).trans (c7 j); have u9 := fun j => (hw.cell (p := ⟨w5.heap.size, j, none⟩) l9).trans (c9 j); go_simp; try with_reducible rfl)
  replace hS := SG.set (i := 3) (by decide) (by decide) hS
  try simp only [Act.put, List.setIfInBounds_toArray, List.set_cons_zero, List.set_cons_succ]
  refine wpG_take0 (i := 4) (v := ?v5) rfl (by kernel_rfl) (by kernel_rfl) (by kernel_rfl) (by decide) (by decide) (fun _ _ _ h => h) hS (Or.inl ⟨by rfl, ?hy5⟩) ?rest5
  case hy5 => (intro w' hw; (try dsimp only at hw); have u7 := fun j => (hw.cell (p := ⟨w3.heap.size, j, none⟩) l7).trans (c7 j); have u9 := fun j => (hw.cell (p := ⟨w5.heap.size, j, none⟩) l9).trans (c9 j); go_simp; try with_reducible rfl)
  replace hS := SG.set (i := 4) (by decide) (by decide) hS
  try simp only [Act.put, List.setIfInBounds_toArray, List.set_cons_zero, List.set_cons_succ]
  refine wpG_take0 (i := 6) (v := ?v6) rfl (by kernel_rfl) (by kernel_rfl) (by kernel_rfl) (by decide) (by decide) (fun _ _ _ h => h) hS (Or.inl ⟨by rfl, ?hy6⟩) ?rest6
  case hy6 => (intro w' hw; (try dsimp only at hw); have u7 := fun j => (hw.cell (p := ⟨w3.heap.size, j, none⟩) l7).trans (c7 j); have u9 := fun j => (hw.cell (p := ⟨w5.heap.size, j, none⟩) l9).trans (c9 j); go_simp; try with_reducible rfl)
  replace hS := SG.set (i := 6) (by decide) (by decide) hS
  try simp only [Act.put, List.setIfInBounds_toArray, List.set_cons_zero, List.set_cons_succ]
  refine wpG_ready (rs := [5]) (by kernel_rfl) (by simp) ?_
  refine RG.consG rfl rfl (fun K hK => ?_) RG.nil
  go_simp
  refine (from_any (.mk ah an ap) HCA.out _ _ Bn dn B d (HA6.out.below D6)).mono ?_
  rintro e x1 ⟨hx1, En, en, E, e', rfl, ht1⟩
  go_wp2_with fail
  have HG1 := Lib.hid (D6.trans (hx1.mono D6.size))
  clear hx1
  refine hK.out _ _ ⟨HG1.out, fun _ => trivial, fun _ => trivial⟩ (fun hS => ?_)
  clear hK K
  try simp only [Act.put, List.setIfInBounds_toArray, List.set_cons_zero, List.set_cons_succ]
  refine wpG_ready (rs := [7]) (by kernel_rfl) (by simp) ?_
  refine RG.consG rfl rfl (fun K hK => ?_) RG.nil
  go_simp
  refine (rsame_one (.mk ah an ap) HCA.out (.mk ah an ap) HCA.out _ _ _ En en E e' Cn fn C f' ht1 (HC6.out.below HG1.out)).mono ?_
  rintro e x2 ⟨rfl, hx2⟩
  go_wp2_with fail
  have HG2 := Lib.hid (HG1.out.trans (hx2.mono HG1.out.size))
  clear hx2
  refine hK.out _ _ ⟨HG2.out, fun _ => trivial, fun _ => trivial⟩ (fun hS => ?_)
  clear hK K
  try simp only [Act.put, List.setIfInBounds_toArray, List.set_cons_zero, List.set_cons_succ]
  refine wpG_take0 (i := 8) (v := ?v7) rfl (by kernel_rfl) (by kernel_rfl) (by kernel_rfl) (by decide) (by decide) (fun _ _ _ h => h) hS (Or.inl ⟨by rfl, ?hy7⟩) ?rest7
  case hy7 => (intro w' hw; (try dsimp only at hw); have u7 := fun j => (hw.cell (p := ⟨w3.heap.size, j, none⟩) l7).trans (c7 j); have u9 := fun j => (hw.cell (p := ⟨w5.heap.size, j, none⟩) l9).trans (c9 j); go_simp; try with_reducible rfl)
  replace hS := SG.set (i := 8) (by decide) (by decide) hS
  try simp only [Act.put, List.setIfInBounds_toArray, List.set_cons_zero, List.set_cons_succ]
  refine wpG_take0 (i := 9) (v := ?v8) rfl (by kernel_rfl) (by kernel_rfl) (by kernel_rfl) (by decide) (by decide) (fun _ _ _ h => h) hS (Or.inl ⟨by rfl, ?hy8⟩) ?rest8
  case hy8 => (intro w' hw; (try dsimp only at hw); have u7 := fun j => (hw.cell (p := ⟨w3.heap.size, j, none⟩) l7).trans (c7 j); have u9 := fun j => (hw.cell (p := ⟨w5.heap.size, j, none⟩) l9).trans (c9 j); go_simp; try with_reducible rfl)
  replace hS := SG.set (i := 9) (by decide) (by decide) hS
  try simp only [Act.put, List.setIfInBounds_toArray, List.set_cons_zero, List.set_cons_succ]
  refine wpG_done (by kernel_rfl) ?_ _
  obtain ⟨w7, hw7⟩ : ∃ w7, w7 = x2 := ⟨_, rfl⟩
  rw [← hw7] at HG2 ⊢
  have HX7 := Lib.hid (HX6.out.trans (HG2.out.mono HX6.out.size))
  have HB7 := Lib.hid (HB6.out.trans (HG2.out.mono HB6.out.size))
  have R77 := Lib.hid (R76.out.below HG2.out R76.out.lt)
  have HA7 := Lib.hid (HA6.out.below HG2.out)
  have R17 := Lib.hid (R1.out.below HX7.out R1.out.lt)
  clear hS D6 c7 l7 c9 l9 HG1 HG2 hw7 ht1
  have CH := Lib.hid (has_any t _ HR.out HCV.out w7 _ An cn A c (HV.out.below HX7.out))
  obtain ⟨hs, hhs⟩ : ∃ hs, hs = (Vl.mk vh vn vp).has t := ⟨_, rfl⟩
  rw [← hhs] at CH
  have HHS := Lib.hid hhs
  simp only [vv, hd_mk, names_mk, parts_mk] at CH
  clear hhs
  have r1 := R17.out.cell
  cases b with
  | false =>
    clear CH
    have CA := Lib.hid (awake_any _ (HT.out.step HB7.out))
    go_wp2_with fail
    refine CA.out.mono ?_
    rintro e w9 ⟨rfl, hb9⟩
    have HB9 := Lib.hid (HB7.out.trans (hb9.mono HB7.out.size))
    clear hb9 CA
    go_wp2_with fail
    (first | go_ret | go_ret2)
    exact ⟨rfl, HB9.out⟩
  | true =>
  go_wp2_with fail
  refine CH.out.mono ?_
  rintro e w8 ⟨rfl, h8⟩
  have HX8 := Lib.hid (HX7.out.trans (h8.mono HX7.out.size))
  have HB8 := Lib.hid (HB7.out.trans (h8.mono HB7.out.size))
  have R78 := Lib.hid (R77.out.below h8 R77.out.lt)
  have HA8 := Lib.hid (HA7.out.below h8)
  clear h8 CH r1
  cases hs with
  | true =>
    skip
    have CA := Lib.hid (awake_any _ (HT.out.step HB8.out))
    go_wp2_with fail
    refine CA.out.mono ?_
    rintro e w9 ⟨rfl, hb9⟩
    have HB9 := Lib.hid (HB8.out.trans (hb9.mono HB8.out.size))
    clear hb9 CA
    go_wp2_with fail
    (first | go_ret | go_ret2)
    exact ⟨rfl, HB9.out⟩
  | false =>
  have HK := Lib.hid (HBK.out (by first | rfl | trivial) HHS.out.symm)
  have C9 := pnamed_any t f HFS.out _ HCA.out w8 _ Bn dn B d HA8.out
  rw [HK.out.1] at C9
  have HC9 := Lib.hid C9
  unfold NmQ at HC9
  simp only [Option.getD, Option.isSome, vv, hd_mk, names_mk, parts_mk] at HC9
  have r7 := R78.out.cell
  clear C9
  go_wp2_with fail
  refine HC9.out.mono ?_
  rintro e w9 ⟨h9, Gn, gn, G, g', rfl, ht9⟩
  obtain ⟨w10, hw10⟩ : ∃ w10, w10 = w9.alloc (.cells (varr vh Gn vn.length gn G vp.length g') 34) := ⟨_, rfl⟩
  have b10 : Below w9.heap.size w9 w10 := by rw [hw10]; exact bel1 w9 _
  have R11 : Hid (RowB w10 w9.heap.size 34 (varr vh Gn vn.length gn G vp.length g')) := by rw [hw10]; exact RowB.new w9 34 _
  have h810 := h9.trans (b10.mono h9.size)
  have HV10 := Lib.hid (ht9.below b10)
  have HA10 := Lib.hid (HA8.out.below h810)
  have HX10 := Lib.hid (HX8.out.trans (h810.mono HX8.out.size))
  have HB10 := Lib.hid (HB8.out.trans (h810.mono HB8.out.size))
  have R710 := Lib.hid (R78.out.below h810 R78.out.lt)
  have HW10 := Lib.hid (HV.out.below HX10.out)
  have R110 := Lib.hid (R1.out.below HX10.out R1.out.lt)
  have HTB := Lib.hid (HT.out.step HB10.out)
  have e10 := hw10
  simp only [varr] at e10
  clear h9 ht9 b10 hw10 HC9 h810 r7
  go_upto_region 10 with fail
  rw [← e10]
  clear e10
  have D10 : Below w10.heap.size w10 w10.drew := Below.drew (Below.refl _ _)
  have c7 := R710.out.cell
  have l7 := R710.out.lt
  have c11 := R11.out.cell
  have l11 := R11.out.lt
  have c3 := R110.out.cell
  have l3 := R110.out.lt
  have hkr := HK.out.2
  refine wp_region_G (S := SG (fun w' => Below w10.heap.size w10 w') 99 (fun _ => True) 99 (fun _ => True)) (by kernel_rfl) ⟨D10, fun _ => trivial, fun _ => trivial⟩ (fun hS => ?_)
  refine wpG_ready (rs := [0]) (by kernel_rfl) (by simp) ?_
  refine RG.consG rfl rfl (fun K hK => ?_) RG.nil
  go_simp
  refine (awake_any _ (HTB.out.step D10)).mono ?_
  rintro e x3 ⟨rfl, hx3⟩
  go_wp2_with fail
  have HG3 := Lib.hid (D10.trans (hx3.mono D10.size))
  clear hx3
  refine hK.out _ _ ⟨HG3.out, fun _ => trivial, fun _ => trivial⟩ (fun hS => ?_)
  clear hK K
  try simp only [Act.put, List.setIfInBounds_toArray, List.set_cons_zero, List.set_cons_succ]
  refine wpG_take0 (i := 1) (v := ?v9) rfl (by kernel_rfl) (by kernel_rfl) (by kernel_rfl) (by decide) (by decide) (fun _ _ _ h => h) hS (Or.inl ⟨by rfl, ?hy9⟩) ?rest9
  case hy9 => (intro w' hw; (try dsimp only at hw); have u7 := fun j => (hw.cell (p := ⟨w3.heap.size, j, none⟩) l7).trans (c7 j); have u11 := fun j => (hw.cell (p := ⟨w9.heap.size, j, none⟩) l11).trans (c11 j); have u3 := fun j => (hw.cell (p := ⟨w.heap.size, j, none⟩) l3).trans (c3 j); go_simp; try with_reducible rfl)
  replace hS := SG.set (i := 1) (by decide) (by decide) hS
  try simp only [Act.put, List.setIfInBounds_toArray, List.set_cons_zero, List.set_cons_succ]
  refine wpG_take0 (i := 2) (v := ?v10) rfl (by kernel_rfl) (by kernel_rfl) (by kernel_rfl) (by decide) (by decide) (fun _ _ _ h => h) hS (Or.inl ⟨by rfl, ?hy10⟩) ?rest10
  case hy10 => (intro w' hw; (try dsimp only at hw); have u7 := fun j => (hw.cell (p := ⟨w3.heap.size, j, none⟩) l7).trans (c7 j); have u11 := fun j => (hw.cell (p := ⟨w9.heap.size, j, none⟩) l11).trans (c11 j); have u3 := fun j => (hw.cell (p := ⟨w.heap.size, j, none⟩) l3).trans (c3 j); go_simp; try with_reducible rfl)
  replace hS := SG.set (i := 2) (by decide) (by decide) hS
  try simp only [Act.put, List.setIfInBounds_toArray, List.set_cons_zero, List.set_cons_succ]
  refine wpG_take0 (i := 3) (v := ?v11) rfl (by kernel_rfl) (by kernel_rfl) (by kernel_rfl) (by decide) (by decide) (fun _ _ _ h => h) hS (Or.inl ⟨by rfl, ?hy11⟩) ?rest11
  case hy11 => (intro w' hw; (try dsimp only at hw); have u7 := fun j => (hw.cell (p := ⟨w3.heap.size, j, none⟩) l7).trans (c7 j); have u11 := fun j => (hw.cell (p := ⟨w9.heap.size, j, none⟩) l11).trans (c11 j); have u3 := fun j => (hw.cell (p := ⟨w.heap.size, j, none⟩) l3).trans (c3 j); go_simp; try with_reducible rfl)
  replace hS := SG.set (i := 3) (by decide) (by decide) hS
  try simp only [Act.put, List.setIfInBounds_toArray, List.set_cons_zero, List.set_cons_succ]
  refine wpG_take0 (i := 4) (v := ?v12) rfl (by kernel_rfl) (by kernel_rfl) (by kernel_rfl) (by decide) (by decide) (fun _ _ _ h => h) hS (Or.inl ⟨by rfl, ?hy12⟩) ?rest12
  case hy12 => (intro w' hw; (try dsimp only at hw); have u7 := fun j => (hw.cell (p := ⟨w3.heap.size, j, none⟩) l7).trans (c7 j); have u11 := fun j => (hw.cell (p := ⟨w9.heap.size, j, none⟩) l11).trans (c11 j); have u3 := fun j => (hw.cell (p := ⟨w.heap.size, j, none⟩) l3).trans (c3 j); go_simp; try with_reducible rfl)
  replace hS := SG.set (i := 4) (by decide) (by decide) hS
  try simp only [Act.put, List.setIfInBounds_toArray, List.set_cons_zero, List.set_cons_succ]
  refine wpG_take0 (i := 5) (v := ?v13) rfl (by kernel_rfl) (by kernel_rfl) (by kernel_rfl) (by decide) (by decide) (fun _ _ _ h => h) hS (Or.inl ⟨by rfl, ?hy13⟩) ?rest13
  case hy13 => (intro w' hw; (try dsimp only at hw); have u7 := fun j => (hw.cell (p := ⟨w3.heap.size, j, none⟩) l7).trans (c7 j); have u11 := fun j => (hw.cell (p := ⟨w9.heap.size, j, none⟩) l11).trans (c11 j); have u3 := fun j => (hw.cell (p := ⟨w.heap.size, j, none⟩) l3).trans (c3 j); go_simp; try with_reducible rfl)
  replace hS := SG.set (i := 5) (by decide) (by decide) hS
  try simp only [Act.put, List.setIfInBounds_toArray, List.set_cons_zero, List.set_cons_succ]
  refine wpG_ready (rs := [6]) (by kernel_rfl) (by simp) ?_
  refine RG.consG rfl rfl (fun K hK => ?_) RG.nil
  go_simp
  refine (pright_one (.mk ah an ap) hkr HCA.out _ _ Bn dn B d (HA10.out.below HG3.out)).mono ?_
  rintro e x4 ⟨rfl, hx4⟩
  go_wp2_with fail
  have HG4 := Lib.hid (HG3.out.trans (hx4.mono HG3.out.size))
  clear hx4
  refine hK.out _ _ ⟨HG4.out, fun _ => trivial, fun _ => trivial⟩ (fun hS => ?_)
  clear hK K
  try simp only [Act.put, List.setIfInBounds_toArray, List.set_cons_zero, List.set_cons_succ]
  refine wpG_take0 (i := 7) (v := ?v14) rfl (by kernel_rfl) (by kernel_rfl) (by kernel_rfl) (by decide) (by decide) (fun _ _ _ h => h) hS (Or.inl ⟨by rfl, ?hy14⟩) ?rest14
  case hy14 => (intro w' hw; (try dsimp only at hw); have u7 := fun j => (hw.cell (p := ⟨w3.heap.size, j, none⟩) l7).trans (c7 j); have u11 := fun j => (hw.cell (p := ⟨w9.heap.size, j, none⟩) l11).trans (c11 j); have u3 := fun j => (hw.cell (p := ⟨w.heap.size, j, none⟩) l3).trans (c3 j); go_simp; try with_reducible rfl)
  replace hS := SG.set (i := 7) (by decide) (by decide) hS
  try simp only [Act.put, List.setIfInBounds_toArray, List.set_cons_zero, List.set_cons_succ]
  refine wpG_take0 (i := 8) (v := ?v15) rfl (by kernel_rfl) (by kernel_rfl) (by kernel_rfl) (by decide) (by decide) (fun _ _ _ h => h) hS (Or.inl ⟨by rfl, ?hy15⟩) ?rest15
  case hy15 => (intro w' hw; (try dsimp only at hw); have u7 := fun j => (hw.cell (p := ⟨w3.heap.size, j, none⟩) l7).trans (c7 j); have u11 := fun j => (hw.cell (p := ⟨w9.heap.size, j, none⟩) l11).trans (c11 j); have u3 := fun j => (hw.cell (p := ⟨w.heap.size, j, none⟩) l3).trans (c3 j); go_simp; try with_reducible rfl)
  replace hS := SG.set (i := 8) (by decide) (by decide) hS
  try simp only [Act.put, List.setIfInBounds_toArray, List.set_cons_zero, List.set_cons_succ]
  refine wpG_take0 (i := 9) (v := ?v16) rfl (by kernel_rfl) (by kernel_rfl) (by kernel_rfl) (by decide) (by decide) (fun _ _ _ h => h) hS (Or.inl ⟨by rfl, ?hy16⟩) ?rest16
  case hy16 => (intro w' hw; (try dsimp only at hw); have u7 := fun j => (hw.cell (p := ⟨w3.heap.size, j, none⟩) l7).trans (c7 j); have u11 := fun j => (hw.cell (p := ⟨w9.heap.size, j, none⟩) l11).trans (c11 j); have u3 := fun j => (hw.cell (p := ⟨w.heap.size, j, none⟩) l3).trans (c3 j); go_simp; try with_reducible rfl)
  replace hS := SG.set (i := 9) (by decide) (by decide) hS
  try simp only [Act.put, List.setIfInBounds_toArray, List.set_cons_zero, List.set_cons_succ]
  refine wpG_take0 (i := 11) (v := ?v17) rfl (by kernel_rfl) (by kernel_rfl) (by kernel_rfl) (by decide) (by decide) (fun _ _ _ h => h) hS (Or.inl ⟨by rfl, ?hy17⟩) ?rest17
  case hy17 => (intro w' hw; (try dsimp only at hw); have u7 := fun j => (hw.cell (p := ⟨w3.heap.size, j, none⟩) l7).trans (c7 j); have u11 := fun j => (hw.cell (p := ⟨w9.heap.size, j, none⟩) l11).trans (c11 j); have u3 := fun j => (hw.cell (p := ⟨w.heap.size, j, none⟩) l3).trans (c3 j); go_simp; try with_reducible rfl)
  replace hS := SG.set (i := 11) (by decide) (by decide) hS
  try simp only [Act.put, List.setIfInBounds_toArray, List.set_cons_zero, List.set_cons_succ]
  refine wpG_ready (rs := [10]) (by kernel_rfl) (by simp) ?_
  refine RG.consG rfl rfl (fun K hK => ?_) RG.nil
  go_simp
  refine (from_any (.mk vh vn vp) HCV.out _ _ Gn gn G g' (HV10.out.below HG4.out)).mono ?_
  rintro e x5 ⟨hx5, En, en, E, e', rfl, ht5⟩
  go_wp2_with fail
  have HG5 := Lib.hid (HG4.out.trans (hx5.mono HG4.out.size))
  clear hx5
  refine hK.out _ _ ⟨HG5.out, fun _ => trivial, fun _ => trivial⟩ (fun hS => ?_)
  clear hK K
  try simp only [Act.put, List.setIfInBounds_toArray, List.set_cons_zero, List.set_cons_succ]
  refine wpG_ready (rs := [12]) (by kernel_rfl) (by simp) ?_
  refine RG.consG rfl rfl (fun K hK => ?_) RG.nil
  go_simp
  refine (rsame_one (.mk vh vn vp) HCV.out (.mk vh vn vp) HCV.out _ _ _ En en E e' An cn A c ht5 (HW10.out.below HG5.out)).mono ?_
  rintro e x6 ⟨rfl, hx6⟩
  go_wp2_with fail
  have HG6 := Lib.hid (HG5.out.trans (hx6.mono HG5.out.size))
  clear hx6
  refine hK.out _ _ ⟨HG6.out, fun _ => trivial, fun _ => trivial⟩ (fun hS => ?_)
  clear hK K
  try simp only [Act.put, List.setIfInBounds_toArray, List.set_cons_zero, List.set_cons_succ]
  refine wpG_take0 (i := 13) (v := ?v18) rfl (by kernel_rfl) (by kernel_rfl) (by kernel_rfl) (by decide) (by decide) (fun _ _ _ h => h) hS (Or.inl ⟨by rfl, ?hy18⟩) ?rest18
  case hy18 => (intro w' hw; (try dsimp only at hw); have u7 := fun j => (hw.cell (p := ⟨w3.heap.size, j, none⟩) l7).trans (c7 j); have u11 := fun j => (hw.cell (p := ⟨w9.heap.size, j, none⟩) l11).trans (c11 j); have u3 := fun j => (hw.cell (p := ⟨w.heap.size, j, none⟩) l3).trans (c3 j); go_simp; try with_reducible rfl)
  replace hS := SG.set (i := 13) (by decide) (by decide) hS
  try simp only [Act.put, List.setIfInBounds_toArray, List.set_cons_zero, List.set_cons_succ]
  refine wpG_take0 (i := 14) (v := ?v19) rfl (by kernel_rfl) (by kernel_rfl) (by kernel_rfl) (by decide) (by decide) (fun _ _ _ h => h) hS (Or.inl ⟨by rfl, ?hy19⟩) ?rest19
  case hy19 => (intro w' hw; (try dsimp only at hw); have u7 := fun j => (hw.cell (p := ⟨w3.heap.size, j, none⟩) l7).trans (c7 j); have u11 := fun j => (hw.cell (p := ⟨w9.heap.size, j, none⟩) l11).trans (c11 j); have u3 := fun j => (hw.cell (p := ⟨w.heap.size, j, none⟩) l3).trans (c3 j); go_simp; try with_reducible rfl)
  replace hS := SG.set (i := 14) (by decide) (by decide) hS
  try simp only [Act.put, List.setIfInBounds_toArray, List.set_cons_zero, List.set_cons_succ]
  refine wpG_done (by kernel_rfl) ?_ _
  clear hS
  go_wp2_with fail
  (first | go_ret | go_ret2)
  exact ⟨rfl, HB10.out.trans (HG6.out.mono HB10.out.size)⟩
end Vm
end Go.Proofs.YtbjlhdjcdinmhaaDoor
