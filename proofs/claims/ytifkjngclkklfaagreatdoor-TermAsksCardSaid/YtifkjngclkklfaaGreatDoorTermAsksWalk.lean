/- The law TermAsks, walked. -/
import Derived.Test.YtifkjngclkklfaaGreatDoorMHf
import Derived.Test.YtifkjngclkklfaaGreatDoorMHe
import Derived.Test.YtifkjngclkklfaaGreatDoorMGy
import Derived.Test.YtifkjngclkklfaaGreatDoorMGz
import Derived.Test.YtifkjngclkklfaaGreatDoorMGr
import Derived.Test.YtifkjngclkklfaaGreatDoorMGu
namespace Go.Proofs.YtifkjngclkklfaaGreatDoor
open Go.RowKit Go.Op
namespace Tm
theorem FieldQ.flat {P : Nat → Prop} {o : Option Ty} {w w' : World} {e : Ending} (h : FieldQ P o w e w') : Below w.heap.size w w' ∧ ∃ An cn A c, e = .returned (.tuple #[tv (o.getD dyn) An cn A c, .bool o.isSome]) ∧ TI w' P (o.getD dyn) An cn A c := by
  refine ⟨h.1, ?_⟩
  have h2 := h.2
  cases o with
  | none => exact ⟨none, 0, none, 0, h2, TI_iff.2 ⟨NV.nil _ _ _ _, TV.nil _ _ _ _⟩⟩
  | some p => exact h2
theorem field_cnt {t : Ty} {x : ByteArray} {n : Nat} (h : t.cnt ≤ n) (h1 : 1 ≤ n) : ((t.field x).getD dyn).cnt ≤ n := by
  cases e : t.field x with
  | none => simp [dyn, Ty.cnt, cntL]; omega
  | some p =>
    unfold Ty.field at e
    split at e
    · have hm := (lk_mem e).1
      have := cnt_part (t := t) hm
      simp only [Option.getD_some]
      omega
    · cases e
set_option maxHeartbeats 16000000 in
set_option maxRecDepth 100000 in
theorem tasks_walk (w : World) (t : Ty) (P0 : Nat → Prop) (An : Option Addr) (cn : Nat) (A : Option Addr) (c : Nat) (h0 : TI w P0 t An cn A c) (u : Ty) (P1 : Nat → Prop) (Bn : Option Addr) (dn : Nat) (B : Option Addr) (d : Nat) (h1 : TI w P1 u Bn dn B d)
    (nm : ByteArray) (hT : Tabs w) (hE : Errs w) :
    Calls Tryz.prog 3 #[tv t An cn A c, tv u Bn dn B d, .string nm] w fun e w' => e = .returned (.bool true) ∧ Below w.heap.size w w' := by
  have b1 := bel1 w (.cells (tarr t.kind An t.names.length cn A t.parts.length c) 25)
  obtain ⟨w1, hw1⟩ : ∃ w1, w1 = w.alloc (.cells (tarr t.kind An t.names.length cn A t.parts.length c) 25) := ⟨_, rfl⟩
  have s1 : w1.heap.size = w.heap.size + 1 := by rw [hw1]; simp
  have R1 : RowB w1 w.heap.size 25 (tarr t.kind An t.names.length cn A t.parts.length c) := by rw [hw1]; exact RowB.new w 25 _
  rw [← hw1] at b1
  have b2 := bel1 w1 (.cells (tarr u.kind Bn u.names.length dn B u.parts.length d) 25)
  obtain ⟨w2, hw2⟩ : ∃ w2, w2 = w1.alloc (.cells (tarr u.kind Bn u.names.length dn B u.parts.length d) 25) := ⟨_, rfl⟩
  have R2 : RowB w2 (w.heap.size + 1) 25 (tarr u.kind Bn u.names.length dn B u.parts.length d) := by rw [hw2, ← s1]; exact RowB.new w1 25 _
  rw [← hw2] at b2
  have HB0 := Lib.hid (b1.trans (b2.mono b1.size))
  have R3 := Lib.hid (R1.below b2 R1.lt)
  have R4 := Lib.hid R2
  have HT1 := Lib.hid (h0.below HB0.out)
  have HT2 := Lib.hid (h1.below HB0.out)
  have HT := Lib.hid hT
  have HE := Lib.hid hE
  have e0 : w2 = (w.alloc (.cells (tarr t.kind An t.names.length cn A t.parts.length c) 25)).alloc (.cells (tarr u.kind Bn u.names.length dn B u.parts.length d) 25) := by rw [hw2, hw1]
  clear hw1 hw2 s1 R1 R2 b1 b2 h0 h1 hT hE w1
  have C1 := Lib.hid (light_any w2 t _ An cn A c HT1.out)
  have CU : Hid (∀ w', Below w2.heap.size w2 w' → Calls Tryz.prog 12 #[tv u Bn dn B d] w' fun e w3 => e = .returned (.bool u.light) ∧ Below w'.heap.size w' w3) := fun w' hb => light_any w' u _ Bn dn B d (HT2.out.below hb)
  obtain ⟨lt, hlt⟩ : ∃ l, l = t.light := ⟨_, rfl⟩
  obtain ⟨lu, hlu⟩ : ∃ l, l = u.light := ⟨_, rfl⟩
  rw [← hlt] at C1
  rw [← hlu] at CU
  have HCT : Hid (lt = true → t.cnt ≤ 41000) := fun h => (light_cnt (hlt.symm.trans h)).1
  have HCU : Hid (lu = true → u.cnt ≤ 41000) := fun h => (light_cnt (hlu.symm.trans h)).1
  have HTK : Hid (t = .mk t.kind t.names t.parts) := t.eta
  obtain ⟨kt, hkt⟩ : ∃ k, k = t.kind := ⟨_, rfl⟩
  obtain ⟨lnt, hnt⟩ : ∃ k, k = t.names.length := ⟨_, rfl⟩
  obtain ⟨lpt, hpt⟩ : ∃ k, k = t.parts.length := ⟨_, rfl⟩
  obtain ⟨ku, hku⟩ : ∃ k, k = u.kind := ⟨_, rfl⟩
  obtain ⟨lnu, hnu⟩ : ∃ k, k = u.names.length := ⟨_, rfl⟩
  obtain ⟨lpu, hpu⟩ : ∃ k, k = u.parts.length := ⟨_, rfl⟩
  have KT : Hid (∀ An cn A c, tv t An cn A c = .agg #[.int .i64 kt, .slice An lnt cn, .slice A lpt c]) := fun _ _ _ _ => by rw [hkt, hnt, hpt]
  have KU : Hid (∀ An cn A c, tv u An cn A c = .agg #[.int .i64 ku, .slice An lnu cn, .slice A lpu c]) := fun _ _ _ _ => by rw [hku, hnu, hpu]
  simp only [tarr, tv, ← hkt, ← hnt, ← hpt, ← hku, ← hnu, ← hpu] at e0 R3 R4 C1 CU ⊢
  clear hkt hnt hpt hku hnu hpu hlt hlu
  have r3 := R3.out.cell
  have r4 := R4.out.cell
  rw [e0] at r3 r4
  go_enter Tryz.func3, Tryz.ntmps3
  go_wp2_with fail
  rw [← e0]
  refine C1.out.mono ?_
  rintro e wa ⟨rfl, ha⟩
  have HXa := Lib.hid ha
  have HBa := Lib.hid (HB0.out.trans (ha.mono HB0.out.size))
  have R3a := Lib.hid (R3.out.below ha R3.out.lt)
  have R4a := Lib.hid (R4.out.below ha R4.out.lt)
  clear ha C1 r3 r4 e0
  have r4 := R4a.out.cell
  cases lt with
  | false =>
    clear CU
    go_wp2_with fail
    have CA := Lib.hid (awake9_any _ (Tabs.step HT.out HBa.out) (HE.out.below HBa.out))
    go_wp2_with fail
    refine CA.out.mono ?_
    rintro e w9 ⟨rfl, hb9⟩
    have HB9 := Lib.hid (HBa.out.trans (hb9.mono HBa.out.size))
    clear hb9 CA
    go_wp2_with fail
    (first | go_ret | go_ret2)
    exact ⟨rfl, HB9.out⟩
  | true =>
  have hct := HCT.out (by first | rfl | trivial)
  have HCT1 := Lib.hid hct
  have C2 := Lib.hid (CU.out wa HXa.out)
  clear HCT hct CU
  go_wp2_with fail
  refine C2.out.mono ?_
  rintro e wb ⟨rfl, hb⟩
  have HXb := Lib.hid (HXa.out.trans (hb.mono HXa.out.size))
  have HBb := Lib.hid (HBa.out.trans (hb.mono HBa.out.size))
  have R3b := Lib.hid (R3a.out.below hb R3a.out.lt)
  have R4b := Lib.hid (R4a.out.below hb R4a.out.lt)
  clear hb C2 r4 HXa HBa R3a R4a
  cases lu with
  | false =>
    go_wp2_with fail
    have CA := Lib.hid (awake9_any _ (Tabs.step HT.out HBb.out) (HE.out.below HBb.out))
    go_wp2_with fail
    refine CA.out.mono ?_
    rintro e w9 ⟨rfl, hb9⟩
    have HB9 := Lib.hid (HBb.out.trans (hb9.mono HBb.out.size))
    clear hb9 CA
    go_wp2_with fail
    (first | go_ret | go_ret2)
    exact ⟨rfl, HB9.out⟩
  | true =>
  have hcu := HCU.out (by first | rfl | trivial)
  have HCU1 := Lib.hid hcu
  clear HCU hcu
  by_cases hnm : nm.size ≤ 1000
  case neg =>
    have q3 : (nm.size : Int) > 1000 := by omega
    go_wp2_with fail
    have CA := Lib.hid (awake9_any _ (Tabs.step HT.out HBb.out) (HE.out.below HBb.out))
    go_wp2_with fail
    refine CA.out.mono ?_
    rintro e w9 ⟨rfl, hb9⟩
    have HB9 := Lib.hid (HBb.out.trans (hb9.mono HBb.out.size))
    clear hb9 CA
    go_wp2_with fail
    (first | go_ret | go_ret2)
    exact ⟨rfl, HB9.out⟩
  have q3 : ¬ (nm.size : Int) > 1000 := by omega
  go_wp2_with fail
  go_upto_region 3 with fail
  have D : Below wb.heap.size wb wb.drew := Below.drew (Below.refl _ _)
  have l3 := R3b.out.lt
  have l4 := R4b.out.lt
  have c3 := R3b.out.cell
  have c4 := R4b.out.cell
  have HTT : Hid (∀ w', Below wb.heap.size wb w' → TI w' P0 t An cn A c) := fun w' hb => (HT1.out.below HXb.out).below hb
  have HTU : Hid (∀ w', Below wb.heap.size wb w' → TI w' P1 u Bn dn B d) := fun w' hb => (HT2.out.below HXb.out).below hb
  have hct : t.cnt ≤ 1000001 := by have := HCT1.out; omega
  have hcu : u.cnt ≤ 1000001 := by have := HCU1.out; omega
  obtain ⟨rr, hrr⟩ : ∃ r, r = t.right := ⟨_, rfl⟩
  have HRR := Lib.hid hrr
  have K14 : Hid (∀ w', Below wb.heap.size wb w' → Calls Tryz.prog 14 #[.agg #[.int .i64 kt, .slice An lnt cn, .slice A lpt c]] w' fun e w2 => e = .returned (.bool rr) ∧ Below w'.heap.size w' w2) := fun w' hb => by rw [← KT.out, hrr]; exact pright_any t hct w' _ An cn A c (HTT.out w' hb)
  have K15 : Hid (∀ w', Below wb.heap.size wb w' → Calls Tryz.prog 15 #[.agg #[.int .i64 kt, .slice An lnt cn, .slice A lpt c]] w' fun e w2 => e = .returned (.bool rr) ∧ Below w'.heap.size w' w2) := fun w' hb => by rw [← KT.out, hrr]; exact rright_any t hct w' _ An cn A c (HTT.out w' hb)
  have K16 : Hid (∀ w', Below wb.heap.size wb w' → Calls Tryz.prog 16 #[.agg #[.int .i64 kt, .slice An lnt cn, .slice A lpt c]] w' fun e w2 => e = .returned (.int .i64 t.depth) ∧ Below w'.heap.size w' w2) := fun w' hb => by rw [← KT.out]; exact pdepth_any t hct w' _ An cn A c (HTT.out w' hb)
  have K17 : Hid (∀ w', Below wb.heap.size wb w' → Calls Tryz.prog 17 #[.agg #[.int .i64 kt, .slice An lnt cn, .slice A lpt c]] w' fun e w2 => e = .returned (.int .i64 t.depth) ∧ Below w'.heap.size w' w2) := fun w' hb => by rw [← KT.out]; exact rdepth_any t hct w' _ An cn A c (HTT.out w' hb)
  have K18 : Hid (∀ w', Below wb.heap.size wb w' → Calls Tryz.prog 18 #[.agg #[.int .i64 kt, .slice An lnt cn, .slice A lpt c]] w' fun e w2 => e = .returned (.bool t.static) ∧ Below w'.heap.size w' w2) := fun w' hb => by rw [← KT.out]; exact pstatic_any t hct w' _ An cn A c (HTT.out w' hb)
  have K19 : Hid (∀ w', Below wb.heap.size wb w' → Calls Tryz.prog 19 #[.agg #[.int .i64 kt, .slice An lnt cn, .slice A lpt c]] w' fun e w2 => e = .returned (.bool t.static) ∧ Below w'.heap.size w' w2) := fun w' hb => by rw [← KT.out]; exact rstatic_any t hct w' _ An cn A c (HTT.out w' hb)
  have K20 : Hid (∀ w', Below wb.heap.size wb w' → Calls Tryz.prog 20 #[.agg #[.int .i64 kt, .slice An lnt cn, .slice A lpt c], .agg #[.int .i64 ku, .slice Bn lnu dn, .slice B lpu d]] w' fun e w2 => e = .returned (.bool (t.same u)) ∧ Below w'.heap.size w' w2) := fun w' hb => by rw [← KT.out, ← KU.out]; exact psame_any t hct u hcu w' _ _ An cn A c Bn dn B d (HTT.out w' hb) (HTU.out w' hb)
  have K21 : Hid (∀ w', Below wb.heap.size wb w' → Calls Tryz.prog 21 #[.agg #[.int .i64 kt, .slice An lnt cn, .slice A lpt c], .agg #[.int .i64 ku, .slice Bn lnu dn, .slice B lpu d]] w' fun e w2 => e = .returned (.bool (t.same u)) ∧ Below w'.heap.size w' w2) := fun w' hb => by rw [← KT.out, ← KU.out]; exact rsame_any t hct u hcu w' _ _ An cn A c Bn dn B d (HTT.out w' hb) (HTU.out w' hb)
  obtain ⟨dt, hdt⟩ : ∃ x : Int, x = t.depth := ⟨_, rfl⟩
  obtain ⟨st, hst⟩ : ∃ x, x = t.static := ⟨_, rfl⟩
  obtain ⟨sm, hsm⟩ : ∃ x, x = t.same u := ⟨_, rfl⟩
  rw [← hdt] at K16 K17
  rw [← hst] at K18 K19
  rw [← hsm] at K20 K21
  clear hct hcu hdt hst hsm hrr HTU HT1 HT2 HXb
  refine wp_region_G (S := SG (fun w' => Below wb.heap.size wb w') 99 (fun _ => True) 99 (fun _ => True)) (by kernel_rfl) ⟨D, fun _ => trivial, fun _ => trivial⟩ (fun hS => ?_)
  refine wpG_take0 (i := 0) (v := ?v1) rfl (by kernel_rfl) (by kernel_rfl) (by kernel_rfl) (by decide) (by decide) (fun _ _ _ h => h) hS (Or.inl ⟨by rfl, ?hy1⟩) ?rest1
  case hy1 => (intro w' hw; have u := fun j => (hw.cell (p := ⟨w.heap.size, j, none⟩) l3).trans (c3 j); go_simp; try with_reducible rfl)
  replace hS := SG.set (i := 0) (by decide) (by decide) hS
  try simp only [Act.put, List.setIfInBounds_toArray, List.set_cons_zero, List.set_cons_succ]
  refine wpG_take0 (i := 2) (v := ?v2) rfl (by kernel_rfl) (by kernel_rfl) (by kernel_rfl) (by decide) (by decide) (fun _ _ _ h => h) hS (Or.inl ⟨by rfl, ?hy2⟩) ?rest2
  case hy2 => (intro w' hw; have u := fun j => (hw.cell (p := ⟨w.heap.size, j, none⟩) l3).trans (c3 j); go_simp; try with_reducible rfl)
  replace hS := SG.set (i := 2) (by decide) (by decide) hS
  try simp only [Act.put, List.setIfInBounds_toArray, List.set_cons_zero, List.set_cons_succ]
  refine wpG_ready (rs := [1]) (by kernel_rfl) (by simp) ?_
  refine RG.consG rfl rfl (fun K hK => ?_) RG.nil
  go_simp
  refine (K14.out _ D).mono ?_
  rintro e x1 ⟨rfl, hx1⟩
  go_wp2_with fail
  have HG1 := Lib.hid (D.trans (hx1.mono D.size))
  clear hx1
  refine hK.out _ _ ⟨HG1.out, fun _ => trivial, fun _ => trivial⟩ (fun hS => ?_)
  clear hK K
  try simp only [Act.put, List.setIfInBounds_toArray, List.set_cons_zero, List.set_cons_succ]
  refine wpG_ready (rs := [3]) (by kernel_rfl) (by simp) ?_
  refine RG.consG rfl rfl (fun K hK => ?_) RG.nil
  go_simp
  refine (K15.out _ HG1.out).mono ?_
  rintro e x2 ⟨rfl, hx2⟩
  go_wp2_with fail
  have HG2 := Lib.hid (HG1.out.trans (hx2.mono HG1.out.size))
  clear hx2
  refine hK.out _ _ ⟨HG2.out, fun _ => trivial, fun _ => trivial⟩ (fun hS => ?_)
  clear hK K
  try simp only [Act.put, List.setIfInBounds_toArray, List.set_cons_zero, List.set_cons_succ]
  refine wpG_take0 (i := 4) (v := .bool false) rfl (by kernel_rfl) (by kernel_rfl) (by kernel_rfl) (by decide) (by decide) (fun _ _ _ h => h) hS (Or.inl ⟨by rfl, ?hy3⟩) ?rest3
  case hy3 => (intro w' hw; go_simp; try with_reducible rfl)
  replace hS := SG.set (i := 4) (by decide) (by decide) hS
  try simp only [Act.put, List.setIfInBounds_toArray, List.set_cons_zero, List.set_cons_succ]
  refine wpG_take0 (i := 5) (v := .bool false) rfl (by kernel_rfl) (by kernel_rfl) (by kernel_rfl) (by decide) (by decide) (fun _ _ _ h => h) hS (Or.inl ⟨by rfl, ?hy4⟩) ?rest4
  case hy4 => (intro w' hw; go_simp; try with_reducible rfl)
  replace hS := SG.set (i := 5) (by decide) (by decide) hS
  try simp only [Act.put, List.setIfInBounds_toArray, List.set_cons_zero, List.set_cons_succ]
  refine wpG_take0 (i := 6) (v := ?v5) rfl (by kernel_rfl) (by kernel_rfl) (by kernel_rfl) (by decide) (by decide) (fun _ _ _ h => h) hS (Or.inl ⟨by rfl, ?hy5⟩) ?rest5
  case hy5 => (intro w' hw; have u := fun j => (hw.cell (p := ⟨w.heap.size, j, none⟩) l3).trans (c3 j); go_simp; try with_reducible rfl)
  replace hS := SG.set (i := 6) (by decide) (by decide) hS
  try simp only [Act.put, List.setIfInBounds_toArray, List.set_cons_zero, List.set_cons_succ]
  refine wpG_take0 (i := 8) (v := ?v6) rfl (by kernel_rfl) (by kernel_rfl) (by kernel_rfl) (by decide) (by decide) (fun _ _ _ h => h) hS (Or.inl ⟨by rfl, ?hy6⟩) ?rest6
  case hy6 => (intro w' hw; have u := fun j => (hw.cell (p := ⟨w.heap.size, j, none⟩) l3).trans (c3 j); go_simp; try with_reducible rfl)
  replace hS := SG.set (i := 8) (by decide) (by decide) hS
  try simp only [Act.put, List.setIfInBounds_toArray, List.set_cons_zero, List.set_cons_succ]
  refine wpG_ready (rs := [7]) (by kernel_rfl) (by simp) ?_
  refine RG.consG rfl rfl (fun K hK => ?_) RG.nil
  go_simp
  refine (K16.out _ HG2.out).mono ?_
  rintro e x3 ⟨rfl, hx3⟩
  go_wp2_with fail
  have HG3 := Lib.hid (HG2.out.trans (hx3.mono HG2.out.size))
  clear hx3
  refine hK.out _ _ ⟨HG3.out, fun _ => trivial, fun _ => trivial⟩ (fun hS => ?_)
  clear hK K
  try simp only [Act.put, List.setIfInBounds_toArray, List.set_cons_zero, List.set_cons_succ]
  refine wpG_ready (rs := [9]) (by kernel_rfl) (by simp) ?_
  refine RG.consG rfl rfl (fun K hK => ?_) RG.nil
  go_simp
  refine (K17.out _ HG3.out).mono ?_
  rintro e x4 ⟨rfl, hx4⟩
  go_wp2_with fail
  have HG4 := Lib.hid (HG3.out.trans (hx4.mono HG3.out.size))
  clear hx4
  refine hK.out _ _ ⟨HG4.out, fun _ => trivial, fun _ => trivial⟩ (fun hS => ?_)
  clear hK K
  try simp only [Act.put, List.setIfInBounds_toArray, List.set_cons_zero, List.set_cons_succ]
  refine wpG_take0 (i := 10) (v := .bool false) rfl (by kernel_rfl) (by kernel_rfl) (by kernel_rfl) (by decide) (by decide) (fun _ _ _ h => h) hS (Or.inl ⟨by rfl, ?hy7⟩) ?rest7
  case hy7 => (intro w' hw; go_simp; try with_reducible rfl)
  replace hS := SG.set (i := 10) (by decide) (by decide) hS
  try simp only [Act.put, List.setIfInBounds_toArray, List.set_cons_zero, List.set_cons_succ]
  refine wpG_take0 (i := 11) (v := .bool false) rfl (by kernel_rfl) (by kernel_rfl) (by kernel_rfl) (by decide) (by decide) (fun _ _ _ h => h) hS (Or.inl ⟨by rfl, ?hy8⟩) ?rest8
  case hy8 => (intro w' hw; go_simp; try with_reducible rfl)
  replace hS := SG.set (i := 11) (by decide) (by decide) hS
  try simp only [Act.put, List.setIfInBounds_toArray, List.set_cons_zero, List.set_cons_succ]
  refine wpG_take0 (i := 12) (v := .bool false) rfl (by kernel_rfl) (by kernel_rfl) (by kernel_rfl) (by decide) (by decide) (fun _ _ _ h => h) hS (Or.inl ⟨by rfl, ?hy9⟩) ?rest9
  case hy9 => (intro w' hw; go_simp; try with_reducible rfl)
  replace hS := SG.set (i := 12) (by decide) (by decide) hS
  try simp only [Act.put, List.setIfInBounds_toArray, List.set_cons_zero, List.set_cons_succ]
  refine wpG_take0 (i := 13) (v := ?v10) rfl (by kernel_rfl) (by kernel_rfl) (by kernel_rfl) (by decide) (by decide) (fun _ _ _ h => h) hS (Or.inl ⟨by rfl, ?hy10⟩) ?rest10
  case hy10 => (intro w' hw; have u := fun j => (hw.cell (p := ⟨w.heap.size, j, none⟩) l3).trans (c3 j); go_simp; try with_reducible rfl)
  replace hS := SG.set (i := 13) (by decide) (by decide) hS
  try simp only [Act.put, List.setIfInBounds_toArray, List.set_cons_zero, List.set_cons_succ]
  refine wpG_take0 (i := 15) (v := ?v11) rfl (by kernel_rfl) (by kernel_rfl) (by kernel_rfl) (by decide) (by decide) (fun _ _ _ h => h) hS (Or.inl ⟨by rfl, ?hy11⟩) ?rest11
  case hy11 => (intro w' hw; have u := fun j => (hw.cell (p := ⟨w.heap.size, j, none⟩) l3).trans (c3 j); go_simp; try with_reducible rfl)
  replace hS := SG.set (i := 15) (by decide) (by decide) hS
  try simp only [Act.put, List.setIfInBounds_toArray, List.set_cons_zero, List.set_cons_succ]
  refine wpG_ready (rs := [14]) (by kernel_rfl) (by simp) ?_
  refine RG.consG rfl rfl (fun K hK => ?_) RG.nil
  go_simp
  refine (K18.out _ HG4.out).mono ?_
  rintro e x5 ⟨rfl, hx5⟩
  go_wp2_with fail
  have HG5 := Lib.hid (HG4.out.trans (hx5.mono HG4.out.size))
  clear hx5
  refine hK.out _ _ ⟨HG5.out, fun _ => trivial, fun _ => trivial⟩ (fun hS => ?_)
  clear hK K
  try simp only [Act.put, List.setIfInBounds_toArray, List.set_cons_zero, List.set_cons_succ]
  refine wpG_ready (rs := [16]) (by kernel_rfl) (by simp) ?_
  refine RG.consG rfl rfl (fun K hK => ?_) RG.nil
  go_simp
  refine (K19.out _ HG5.out).mono ?_
  rintro e x6 ⟨rfl, hx6⟩
  go_wp2_with fail
  have HG6 := Lib.hid (HG5.out.trans (hx6.mono HG5.out.size))
  clear hx6
  refine hK.out _ _ ⟨HG6.out, fun _ => trivial, fun _ => trivial⟩ (fun hS => ?_)
  clear hK K
  try simp only [Act.put, List.setIfInBounds_toArray, List.set_cons_zero, List.set_cons_succ]
  refine wpG_take0 (i := 17) (v := .bool false) rfl (by kernel_rfl) (by kernel_rfl) (by kernel_rfl) (by decide) (by decide) (fun _ _ _ h => h) hS (Or.inl ⟨by rfl, ?hy12⟩) ?rest12
  case hy12 => (intro w' hw; go_simp; try with_reducible rfl)
  replace hS := SG.set (i := 17) (by decide) (by decide) hS
  try simp only [Act.put, List.setIfInBounds_toArray, List.set_cons_zero, List.set_cons_succ]
  refine wpG_take0 (i := 18) (v := .bool false) rfl (by kernel_rfl) (by kernel_rfl) (by kernel_rfl) (by decide) (by decide) (fun _ _ _ h => h) hS (Or.inl ⟨by rfl, ?hy13⟩) ?rest13
  case hy13 => (intro w' hw; go_simp; try with_reducible rfl)
  replace hS := SG.set (i := 18) (by decide) (by decide) hS
  try simp only [Act.put, List.setIfInBounds_toArray, List.set_cons_zero, List.set_cons_succ]
  refine wpG_take0 (i := 19) (v := .bool false) rfl (by kernel_rfl) (by kernel_rfl) (by kernel_rfl) (by decide) (by decide) (fun _ _ _ h => h) hS (Or.inl ⟨by rfl, ?hy14⟩) ?rest14
  case hy14 => (intro w' hw; go_simp; try with_reducible rfl)
  replace hS := SG.set (i := 19) (by decide) (by decide) hS
  try simp only [Act.put, List.setIfInBounds_toArray, List.set_cons_zero, List.set_cons_succ]
  refine wpG_take0 (i := 20) (v := ?v15) rfl (by kernel_rfl) (by kernel_rfl) (by kernel_rfl) (by decide) (by decide) (fun _ _ _ h => h) hS (Or.inl ⟨by rfl, ?hy15⟩) ?rest15
  case hy15 => (intro w' hw; have u := fun j => (hw.cell (p := ⟨w.heap.size, j, none⟩) l3).trans (c3 j); go_simp; try with_reducible rfl)
  replace hS := SG.set (i := 20) (by decide) (by decide) hS
  try simp only [Act.put, List.setIfInBounds_toArray, List.set_cons_zero, List.set_cons_succ]
  refine wpG_take0 (i := 21) (v := ?v16) rfl (by kernel_rfl) (by kernel_rfl) (by kernel_rfl) (by decide) (by decide) (fun _ _ _ h => h) hS (Or.inl ⟨by rfl, ?hy16⟩) ?rest16
  case hy16 => (intro w' hw; have u := fun j => (hw.cell (p := ⟨w.heap.size + 1, j, none⟩) l4).trans (c4 j); go_simp; try with_reducible rfl)
  replace hS := SG.set (i := 21) (by decide) (by decide) hS
  try simp only [Act.put, List.setIfInBounds_toArray, List.set_cons_zero, List.set_cons_succ]
  refine wpG_take0 (i := 23) (v := ?v17) rfl (by kernel_rfl) (by kernel_rfl) (by kernel_rfl) (by decide) (by decide) (fun _ _ _ h => h) hS (Or.inl ⟨by rfl, ?hy17⟩) ?rest17
  case hy17 => (intro w' hw; have u := fun j => (hw.cell (p := ⟨w.heap.size, j, none⟩) l3).trans (c3 j); go_simp; try with_reducible rfl)
  replace hS := SG.set (i := 23) (by decide) (by decide) hS
  try simp only [Act.put, List.setIfInBounds_toArray, List.set_cons_zero, List.set_cons_succ]
  refine wpG_take0 (i := 24) (v := ?v18) rfl (by kernel_rfl) (by kernel_rfl) (by kernel_rfl) (by decide) (by decide) (fun _ _ _ h => h) hS (Or.inl ⟨by rfl, ?hy18⟩) ?rest18
  case hy18 => (intro w' hw; have u := fun j => (hw.cell (p := ⟨w.heap.size + 1, j, none⟩) l4).trans (c4 j); go_simp; try with_reducible rfl)
  replace hS := SG.set (i := 24) (by decide) (by decide) hS
  try simp only [Act.put, List.setIfInBounds_toArray, List.set_cons_zero, List.set_cons_succ]
  refine wpG_ready (rs := [22]) (by kernel_rfl) (by simp) ?_
  refine RG.consG rfl rfl (fun K hK => ?_) RG.nil
  go_simp
  refine (K20.out _ HG6.out).mono ?_
  rintro e x7 ⟨rfl, hx7⟩
  go_wp2_with fail
  have HG7 := Lib.hid (HG6.out.trans (hx7.mono HG6.out.size))
  clear hx7
  refine hK.out _ _ ⟨HG7.out, fun _ => trivial, fun _ => trivial⟩ (fun hS => ?_)
  clear hK K
  try simp only [Act.put, List.setIfInBounds_toArray, List.set_cons_zero, List.set_cons_succ]
  refine wpG_ready (rs := [25]) (by kernel_rfl) (by simp) ?_
  refine RG.consG rfl rfl (fun K hK => ?_) RG.nil
  go_simp
  refine (K21.out _ HG7.out).mono ?_
  rintro e x8 ⟨rfl, hx8⟩
  go_wp2_with fail
  have HG8 := Lib.hid (HG7.out.trans (hx8.mono HG7.out.size))
  clear hx8
  refine hK.out _ _ ⟨HG8.out, fun _ => trivial, fun _ => trivial⟩ (fun hS => ?_)
  clear hK K
  try simp only [Act.put, List.setIfInBounds_toArray, List.set_cons_zero, List.set_cons_succ]
  refine wpG_take0 (i := 26) (v := .bool false) rfl (by kernel_rfl) (by kernel_rfl) (by kernel_rfl) (by decide) (by decide) (fun _ _ _ h => h) hS (Or.inl ⟨by rfl, ?hy19⟩) ?rest19
  case hy19 => (intro w' hw; go_simp; try with_reducible rfl)
  replace hS := SG.set (i := 26) (by decide) (by decide) hS
  try simp only [Act.put, List.setIfInBounds_toArray, List.set_cons_zero, List.set_cons_succ]
  refine wpG_take0 (i := 27) (v := .bool false) rfl (by kernel_rfl) (by kernel_rfl) (by kernel_rfl) (by decide) (by decide) (fun _ _ _ h => h) hS (Or.inl ⟨by rfl, ?hy20⟩) ?rest20
  case hy20 => (intro w' hw; go_simp; try with_reducible rfl)
  replace hS := SG.set (i := 27) (by decide) (by decide) hS
  try simp only [Act.put, List.setIfInBounds_toArray, List.set_cons_zero, List.set_cons_succ]
  refine wpG_done (by kernel_rfl) ?_ _
  have HXc := Lib.hid HG8.out
  have HBc := Lib.hid (HBb.out.trans (HXc.out.mono HBb.out.size))
  have c3' := (R3b.out.below HXc.out R3b.out.lt).cell
  have C5 := Lib.hid (K15.out _ HXc.out)
  clear hS K14 K15 K16 K17 K18 K19 K20 K21 HG1 HG2 HG3 HG4 HG5 HG6 HG7 HG8 D c3 c4
  go_wp2_with fail
  refine C5.out.mono ?_
  rintro e wd ⟨rfl, hd⟩
  have HXd := Lib.hid (HXc.out.trans (hd.mono HXc.out.size))
  have HBd := Lib.hid (HBb.out.trans (HXd.out.mono HBb.out.size))
  clear hd C5 c3'
  cases rr with
  | false =>
    go_wp2_with fail
    have CA := Lib.hid (awake9_any _ (Tabs.step HT.out HBd.out) (HE.out.below HBd.out))
    go_wp2_with fail
    refine CA.out.mono ?_
    rintro e w9 ⟨rfl, hb9⟩
    have HB9 := Lib.hid (HBd.out.trans (hb9.mono HBd.out.size))
    clear hb9 CA
    go_wp2_with fail
    (first | go_ret | go_ret2)
    exact ⟨rfl, HB9.out⟩
  | true =>
  have HRT : Hid (t.right = true) := by first | exact HRR.out.symm | exact (HRR.out (by trivial)).symm
  have HLT : Hid (t.text.length ≤ lim) := text_lim HRT.out HCT1.out
  have hln : t.names.length ≤ 1000001 := by have := HCT1.out; have e := HTK.out; rw [e, Ty.cnt] at this; omega
  have HK := Lib.hid (TI_iff.1 (HTT.out wd HXd.out))
  have C6 := pfield_any wd t.kind t.names t.parts nm _ An cn A c HK.out.1 HK.out.2 hln (by rw [← HTK.out]; exact HRT.out)
  rw [← HTK.out] at C6
  have C6' := Lib.hid C6
  have C7 : Hid (∀ w', Below wb.heap.size wb w' → Calls Tryz.prog 23 #[tv t An cn A c, .string nm] w' (FieldQ P0 (t.field nm) w')) := fun w' hb => by
    have hk := TI_iff.1 (HTT.out w' hb)
    have := rfield_any w' t.kind t.names t.parts nm _ An cn A c hk.1 hk.2 hln (by rw [← HTK.out]; exact HRT.out)
    rw [← HTK.out] at this
    exact this
  have C6e : Hid (Calls Tryz.prog 22 #[.agg #[.int .i64 kt, .slice An lnt cn, .slice A lpt c], .string nm] wd (FieldQ P0 (t.field nm) wd)) := by unfold Hid; rw [← KT.out]; exact C6'.out
  have C7e : Hid (∀ w', Below wb.heap.size wb w' → Calls Tryz.prog 23 #[.agg #[.int .i64 kt, .slice An lnt cn, .slice A lpt c], .string nm] w' (FieldQ P0 (t.field nm) w')) := fun w' hb => by rw [← KT.out]; exact C7.out w' hb
  have HCF : Hid (((t.field nm).getD dyn).cnt ≤ 1000001) := field_cnt (by have := HCT1.out; omega) (by omega)
  obtain ⟨ff, hff⟩ : ∃ f, f = (t.field nm).getD dyn := ⟨_, rfl⟩
  obtain ⟨fb, hfb⟩ : ∃ f, f = (t.field nm).isSome := ⟨_, rfl⟩
  obtain ⟨fo, hfo⟩ : ∃ f, f = t.field nm := ⟨_, rfl⟩
  rw [← hfo] at C6e C7e hff hfb
  rw [← hfo, ← hff] at HCF
  have HFF := Lib.hid (And.intro hff hfb)
  have c3' := (R3b.out.below HXd.out R3b.out.lt).cell
  clear C6 C6' C7 HK hff hfb hfo hln
  go_wp2_with fail
  refine C6e.out.mono ?_
  rintro e we hq
  obtain ⟨he, Cn, fn, C, f, rfl, hti⟩ := hq.flat
  rw [← HFF.out.1, ← HFF.out.2]
  rw [← HFF.out.1] at hti
  have b6 := bel1 we (.cells (tarr ff.kind Cn ff.names.length fn C ff.parts.length f) 25)
  obtain ⟨wf, hwf⟩ : ∃ wf, wf = we.alloc (.cells (tarr ff.kind Cn ff.names.length fn C ff.parts.length f) 25) := ⟨_, rfl⟩
  have R7 : Hid (RowB wf we.heap.size 25 (tarr ff.kind Cn ff.names.length fn C ff.parts.length f)) := by rw [hwf]; exact RowB.new we 25 _
  rw [← hwf] at b6
  have HTF := Lib.hid (hti.below b6)
  have HXf := Lib.hid (HXd.out.trans ((he.trans (b6.mono he.size)).mono HXd.out.size))
  have C7f := Lib.hid (C7e.out wf HXf.out)
  have c3f := (R3b.out.below HXf.out R3b.out.lt).cell
  obtain ⟨kf, hkf⟩ : ∃ k, k = ff.kind := ⟨_, rfl⟩
  obtain ⟨lnf, hnf⟩ : ∃ k, k = ff.names.length := ⟨_, rfl⟩
  obtain ⟨lpf, hpf⟩ : ∃ k, k = ff.parts.length := ⟨_, rfl⟩
  have KF : Hid (∀ An cn A c, tv ff An cn A c = .agg #[.int .i64 kf, .slice An lnf cn, .slice A lpf c]) := fun _ _ _ _ => by rw [hkf, hnf, hpf]
  simp only [tarr, tv, ← hkf, ← hnf, ← hpf] at hwf R7 ⊢
  have e7 := hwf
  rw [e7] at c3f
  clear hq he hti b6 hwf hkf hnf hpf C6e C7e c3'
  go_wp2_with fail
  rw [← e7]
  refine C7f.out.mono ?_
  rintro e wg hq
  obtain ⟨hg, Dn, gn, DD, g, rfl, hti⟩ := hq.flat
  rw [← HFF.out.1, ← HFF.out.2]
  rw [← HFF.out.1] at hti
  rw [KF.out]
  have b8 := bel1 wg (.cells #[.int .i64 kf, .slice Dn lnf gn, .slice DD lpf g] 25)
  obtain ⟨wh, hwh⟩ : ∃ wh, wh = wg.alloc (.cells #[.int .i64 kf, .slice Dn lnf gn, .slice DD lpf g] 25) := ⟨_, rfl⟩
  have R9 : Hid (RowB wh wg.heap.size 25 #[.int .i64 kf, .slice Dn lnf gn, .slice DD lpf g]) := by rw [hwh]; exact RowB.new wg 25 _
  rw [← hwh] at b8
  have hgh := hg.trans (b8.mono hg.size)
  have HTG := Lib.hid (hti.below b8)
  have HTF2 := Lib.hid (HTF.out.below hgh)
  have R72 := Lib.hid (R7.out.below hgh R7.out.lt)
  have HXh := Lib.hid (HXf.out.trans (hgh.mono HXf.out.size))
  have R32 := Lib.hid (R3b.out.below HXh.out R3b.out.lt)
  have HBh := Lib.hid (HBb.out.trans (HXh.out.mono HBb.out.size))
  have e9 := hwh
  clear hq hg hti b8 hwh hgh C7f c3f R7 HTF e7
  go_upto_region 9 with fail
  rw [← e9]
  clear e9
  have D : Below wh.heap.size wh wh.drew := Below.drew (Below.refl _ _)
  have HBD := HBh.out.trans (D.mono HBh.out.size)
  have K13 := Lib.hid (awake9_any wh.drew (Tabs.step HT.out HBD) (HE.out.below HBD))
  have K21 : Hid (∀ w', Below wh.heap.size wh w' → Calls Tryz.prog 21 #[.agg #[.int .i64 kf, .slice Cn lnf fn, .slice C lpf f], .agg #[.int .i64 kf, .slice Dn lnf gn, .slice DD lpf g]] w' fun e w2 => e = .returned (.bool true) ∧ Below w'.heap.size w' w2) := fun w' hb => by
    have := rsame_any ff HCF.out ff HCF.out w' _ _ Cn fn C f Dn gn _ g (HTF2.out.below hb) (HTG.out.below hb)
    rw [same_refl, KF.out, KF.out] at this
    exact this
  have K24 : Hid (∀ w', Below wh.heap.size wh w' → Calls Tryz.prog 24 #[.agg #[.int .i64 kt, .slice An lnt cn, .slice A lpt c]] w' fun e w2 => e = .returned (.string (textS t)) ∧ Below w'.heap.size w' w2) := fun w' hb => by
    rw [← KT.out]
    exact text_any t (by have := HCT1.out; omega) HLT.out w' _ An cn A c (HTT.out w' (HXh.out.trans (hb.mono HXh.out.size)))
  have K25 : Hid (∀ w', Below wh.heap.size wh w' → Calls Tryz.prog 25 #[.agg #[.int .i64 kt, .slice An lnt cn, .slice A lpt c]] w' fun e w2 => e = .returned (.string (textS t)) ∧ Below w'.heap.size w' w2) := fun w' hb => by
    rw [← KT.out]
    have := rtext_any t HRT.out (by have := HCT1.out; omega) w' _ An cn A c (HTT.out w' (HXh.out.trans (hb.mono HXh.out.size))) HLT.out
    have e : textS t = ⟨t.text.toArray⟩ := by unfold textS; rw [if_pos HRT.out]
    rw [e]
    exact this
  have l3 := R32.out.lt
  have l7 := R72.out.lt
  have l9 := R9.out.lt
  have c3 := R32.out.cell
  have c7 := R72.out.cell
  have c9 := R9.out.cell
  generalize textS t = tx at *
  clear HTF2 HTG HXh HXf HXd HXc R32 R72 R9 HRT HTT HLT HTK KT KU KF HFF HCF HRR HCT1 HCU1
  refine wp_region_G (S := SG (fun w' => Below wh.heap.size wh w') 99 (fun _ => True) 99 (fun _ => True)) (by kernel_rfl) ⟨D, fun _ => trivial, fun _ => trivial⟩ (fun hS => ?_)
  refine wpG_ready (rs := [0]) (by kernel_rfl) (by simp) ?_
  refine RG.consG rfl rfl (fun K hK => ?_) RG.nil
  go_simp
  refine ((K13.out)).mono ?_
  rintro e y1 ⟨rfl, hx1⟩
  go_wp2_with fail
  have HG1 := Lib.hid (D.trans (hx1.mono D.size))
  clear hx1
  refine hK.out _ _ ⟨HG1.out, fun _ => trivial, fun _ => trivial⟩ (fun hS => ?_)
  clear hK K
  try simp only [Act.put, List.setIfInBounds_toArray, List.set_cons_zero, List.set_cons_succ]
  refine wpG_take0 (i := 1) (v := ?v21) rfl (by kernel_rfl) (by kernel_rfl) (by kernel_rfl) (by decide) (by decide) (fun _ _ _ h => h) hS (Or.inl ⟨by rfl, ?hy21⟩) ?rest21
  case hy21 => (intro w' hw; go_simp; try with_reducible rfl)
  replace hS := SG.set (i := 1) (by decide) (by decide) hS
  try simp only [Act.put, List.setIfInBounds_toArray, List.set_cons_zero, List.set_cons_succ]
  refine wpG_take0 (i := 2) (v := ?v22) rfl (by kernel_rfl) (by kernel_rfl) (by kernel_rfl) (by decide) (by decide) (fun _ _ _ h => h) hS (Or.inl ⟨by rfl, ?hy22⟩) ?rest22
  case hy22 => (intro w' hw; go_simp; try with_reducible rfl)
  replace hS := SG.set (i := 2) (by decide) (by decide) hS
  try simp only [Act.put, List.setIfInBounds_toArray, List.set_cons_zero, List.set_cons_succ]
  refine wpG_take0 (i := 3) (v := ?v23) rfl (by kernel_rfl) (by kernel_rfl) (by kernel_rfl) (by decide) (by decide) (fun _ _ _ h => h) hS (Or.inl ⟨by rfl, ?hy23⟩) ?rest23
  case hy23 => (intro w' hw; go_simp; try with_reducible rfl)
  replace hS := SG.set (i := 3) (by decide) (by decide) hS
  try simp only [Act.put, List.setIfInBounds_toArray, List.set_cons_zero, List.set_cons_succ]
  refine wpG_take0 (i := 4) (v := .bool true) rfl (by kernel_rfl) (by kernel_rfl) (by kernel_rfl) (by decide) (by decide) (fun _ _ _ h => h) hS (Or.inl ⟨by rfl, ?hy24⟩) ?rest24
  case hy24 => (intro w' hw; go_simp; try with_reducible rfl)
  replace hS := SG.set (i := 4) (by decide) (by decide) hS
  try simp only [Act.put, List.setIfInBounds_toArray, List.set_cons_zero, List.set_cons_succ]
  refine wpG_take0 (i := 5) (v := .bool true) rfl (by kernel_rfl) (by kernel_rfl) (by kernel_rfl) (by decide) (by decide) (fun _ _ _ h => h) hS (Or.inl ⟨by rfl, ?hy25⟩) ?rest25
  case hy25 => (intro w' hw; go_simp; try with_reducible rfl)
  replace hS := SG.set (i := 5) (by decide) (by decide) hS
  try simp only [Act.put, List.setIfInBounds_toArray, List.set_cons_zero, List.set_cons_succ]
  refine wpG_take0 (i := 6) (v := ?v26) rfl (by kernel_rfl) (by kernel_rfl) (by kernel_rfl) (by decide) (by decide) (fun _ _ _ h => h) hS (Or.inl ⟨by rfl, ?hy26⟩) ?rest26
  case hy26 => (intro w' hw; go_simp; try with_reducible rfl)
  replace hS := SG.set (i := 6) (by decide) (by decide) hS
  try simp only [Act.put, List.setIfInBounds_toArray, List.set_cons_zero, List.set_cons_succ]
  refine wpG_take0 (i := 7) (v := ?v27) rfl (by kernel_rfl) (by kernel_rfl) (by kernel_rfl) (by decide) (by decide) (fun _ _ _ h => h) hS (Or.inl ⟨by rfl, ?hy27⟩) ?rest27
  case hy27 => (intro w' hw; have u := fun j => (hw.cell (p := ⟨we.heap.size, j, none⟩) l7).trans (c7 j); go_simp; try with_reducible rfl)
  replace hS := SG.set (i := 7) (by decide) (by decide) hS
  try simp only [Act.put, List.setIfInBounds_toArray, List.set_cons_zero, List.set_cons_succ]
  refine wpG_take0 (i := 8) (v := ?v28) rfl (by kernel_rfl) (by kernel_rfl) (by kernel_rfl) (by decide) (by decide) (fun _ _ _ h => h) hS (Or.inl ⟨by rfl, ?hy28⟩) ?rest28
  case hy28 => (intro w' hw; have u := fun j => (hw.cell (p := ⟨wg.heap.size, j, none⟩) l9).trans (c9 j); go_simp; try with_reducible rfl)
  replace hS := SG.set (i := 8) (by decide) (by decide) hS
  try simp only [Act.put, List.setIfInBounds_toArray, List.set_cons_zero, List.set_cons_succ]
  refine wpG_ready (rs := [9]) (by kernel_rfl) (by simp) ?_
  refine RG.consG rfl rfl (fun K hK => ?_) RG.nil
  go_simp
  refine (K21.out _ HG1.out).mono ?_
  rintro e y2 ⟨rfl, hx2⟩
  go_wp2_with fail
  have HG2 := Lib.hid (HG1.out.trans (hx2.mono HG1.out.size))
  clear hx2
  refine hK.out _ _ ⟨HG2.out, fun _ => trivial, fun _ => trivial⟩ (fun hS => ?_)
  clear hK K
  try simp only [Act.put, List.setIfInBounds_toArray, List.set_cons_zero, List.set_cons_succ]
  refine wpG_take0 (i := 10) (v := ?v29) rfl (by kernel_rfl) (by kernel_rfl) (by kernel_rfl) (by decide) (by decide) (fun _ _ _ h => h) hS (Or.inl ⟨by rfl, ?hy29⟩) ?rest29
  case hy29 => (intro w' hw; go_simp; try with_reducible rfl)
  replace hS := SG.set (i := 10) (by decide) (by decide) hS
  try simp only [Act.put, List.setIfInBounds_toArray, List.set_cons_zero, List.set_cons_succ]
  refine wpG_take0 (i := 11) (v := ?v30) rfl (by kernel_rfl) (by kernel_rfl) (by kernel_rfl) (by decide) (by decide) (fun _ _ _ h => h) hS (Or.inl ⟨by rfl, ?hy30⟩) ?rest30
  case hy30 => (intro w' hw; go_simp; try with_reducible rfl)
  replace hS := SG.set (i := 11) (by decide) (by decide) hS
  try simp only [Act.put, List.setIfInBounds_toArray, List.set_cons_zero, List.set_cons_succ]
  refine wpG_take0 (i := 12) (v := ?v31) rfl (by kernel_rfl) (by kernel_rfl) (by kernel_rfl) (by decide) (by decide) (fun _ _ _ h => h) hS (Or.inl ⟨by rfl, ?hy31⟩) ?rest31
  case hy31 => (intro w' hw; have u := fun j => (hw.cell (p := ⟨w.heap.size, j, none⟩) l3).trans (c3 j); go_simp; try with_reducible rfl)
  replace hS := SG.set (i := 12) (by decide) (by decide) hS
  try simp only [Act.put, List.setIfInBounds_toArray, List.set_cons_zero, List.set_cons_succ]
  refine wpG_take0 (i := 14) (v := ?v32) rfl (by kernel_rfl) (by kernel_rfl) (by kernel_rfl) (by decide) (by decide) (fun _ _ _ h => h) hS (Or.inl ⟨by rfl, ?hy32⟩) ?rest32
  case hy32 => (intro w' hw; have u := fun j => (hw.cell (p := ⟨w.heap.size, j, none⟩) l3).trans (c3 j); go_simp; try with_reducible rfl)
  replace hS := SG.set (i := 14) (by decide) (by decide) hS
  try simp only [Act.put, List.setIfInBounds_toArray, List.set_cons_zero, List.set_cons_succ]
  refine wpG_ready (rs := [13]) (by kernel_rfl) (by simp) ?_
  refine RG.consG rfl rfl (fun K hK => ?_) RG.nil
  go_simp
  refine (K24.out _ HG2.out).mono ?_
  rintro e y3 ⟨rfl, hx3⟩
  go_wp2_with fail
  have HG3 := Lib.hid (HG2.out.trans (hx3.mono HG2.out.size))
  clear hx3
  refine hK.out _ _ ⟨HG3.out, fun _ => trivial, fun _ => trivial⟩ (fun hS => ?_)
  clear hK K
  try simp only [Act.put, List.setIfInBounds_toArray, List.set_cons_zero, List.set_cons_succ]
  refine wpG_ready (rs := [15]) (by kernel_rfl) (by simp) ?_
  refine RG.consG rfl rfl (fun K hK => ?_) RG.nil
  go_simp
  refine (K25.out _ HG3.out).mono ?_
  rintro e y4 ⟨rfl, hx4⟩
  go_wp2_with fail
  have HG4 := Lib.hid (HG3.out.trans (hx4.mono HG3.out.size))
  clear hx4
  refine hK.out _ _ ⟨HG4.out, fun _ => trivial, fun _ => trivial⟩ (fun hS => ?_)
  clear hK K
  try simp only [Act.put, List.setIfInBounds_toArray, List.set_cons_zero, List.set_cons_succ]
  refine wpG_take0 (i := 16) (v := .bool true) rfl (by kernel_rfl) (by kernel_rfl) (by kernel_rfl) (by decide) (by decide) (fun _ _ _ h => h) hS (Or.inl ⟨by rfl, ?hy33⟩) ?rest33
  case hy33 => (intro w' hw; go_simp; try with_reducible rfl)
  replace hS := SG.set (i := 16) (by decide) (by decide) hS
  try simp only [Act.put, List.setIfInBounds_toArray, List.set_cons_zero, List.set_cons_succ]
  refine wpG_take0 (i := 17) (v := .bool true) rfl (by kernel_rfl) (by kernel_rfl) (by kernel_rfl) (by decide) (by decide) (fun _ _ _ h => h) hS (Or.inl ⟨by rfl, ?hy34⟩) ?rest34
  case hy34 => (intro w' hw; go_simp; try with_reducible rfl)
  replace hS := SG.set (i := 17) (by decide) (by decide) hS
  try simp only [Act.put, List.setIfInBounds_toArray, List.set_cons_zero, List.set_cons_succ]
  refine wpG_take0 (i := 18) (v := ?v35) rfl (by kernel_rfl) (by kernel_rfl) (by kernel_rfl) (by decide) (by decide) (fun _ _ _ h => h) hS (Or.inl ⟨by rfl, ?hy35⟩) ?rest35
  case hy35 => (intro w' hw; go_simp; try with_reducible rfl)
  replace hS := SG.set (i := 18) (by decide) (by decide) hS
  try simp only [Act.put, List.setIfInBounds_toArray, List.set_cons_zero, List.set_cons_succ]
  refine wpG_done (by kernel_rfl) ?_ _
  have HBF := Lib.hid (HBh.out.trans ((HG4.out).mono HBh.out.size))
  go_wp2_with fail
  (first | go_ret | go_ret2)
  exact ⟨rfl, HBF.out⟩
end Tm
end Go.Proofs.YtifkjngclkklfaaGreatDoor
