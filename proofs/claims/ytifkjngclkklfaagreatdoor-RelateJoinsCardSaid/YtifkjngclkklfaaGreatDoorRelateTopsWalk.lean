/- The law RelateTops, walked. -/
import Derived.Test.YtifkjngclkklfaaGreatDoorMGr
import Derived.Test.YtifkjngclkklfaaGreatDoorMGs
import Derived.Test.YtifkjngclkklfaaGreatDoorMGw
import Derived.Test.YtifkjngclkklfaaGreatDoorMGu
import Derived.BigQuiet
import Derived.Lib.QuietBelow
namespace Go.Proofs.YtifkjngclkklfaaGreatDoor
open Go.RowKit Go.Op
namespace Tm
theorem cntL_app : ∀ a b : List Ty, cntL (a ++ b) = cntL a + cntL b
  | [], b => by simp [cntL]
  | t :: a, b => by rw [List.cons_append, cntL, cntL, cntL_app a b]; omega
theorem comR_cnt {f : Ty → Ty → Ty} {bn : List ByteArray} {bp : List Ty} : ∀ (xs : List ByteArray) (ps : List Ty), (∀ p ∈ ps, ∀ q ∈ bp, (f p q).cnt ≤ p.cnt) → cntL ((comR f bn bp xs ps).map Prod.snd) ≤ cntL ps
  | [], _, _ => by simp [comR, cntL]
  | _ :: _, [], _ => by simp [comR, cntL]
  | x :: xs, p :: ps, h => by
    have ih := comR_cnt (f := f) (bn := bn) (bp := bp) xs ps fun p hp q hq => h p (List.mem_cons_of_mem _ hp) q hq
    rw [comR, cntL]
    cases e : lk bn bp x with
    | none => simp only; omega
    | some q =>
      have := h p List.mem_cons_self q (lk_mem e).1
      simp only [List.map_cons, cntL]
      omega
theorem com_cnt : ∀ a : Ty, a.right = true → ∀ b : Ty, b.right = true → (com a b).cnt ≤ a.cnt := by
  refine Ty.ind fun k ns ps ih ra b rb => ?_
  by_cases h3 : k = 3 ∧ b.kind = 3
  · rw [com_rec ra rb h3.1 h3.2, recOf, Ty.cnt, Ty.cnt]
    have h1 := comR_len (f := com) (bn := b.names) (bp := b.parts) ns ps
    have h2 := comR_cnt (f := com) (bn := b.names) (bp := b.parts) ns ps fun p hp q hq => ih p hp (right_part (t := .mk k ns ps) ra hp) q (right_part rb hq)
    simp only [names_mk, parts_mk, List.length_map]
    omega
  · by_cases h4 : k = 4 ∧ b.kind = 4
    · have hp := (right_fn ra h4.1).2
      simp only [parts_mk] at hp
      have hc := com_fn ra rb h4.1 h4.2
      simp only [parts_mk] at hc
      have hb := (right_fn rb h4.2).2
      have h1 := ih (lastT ps) (lastT_mem hp) (right_part (t := .mk k ns ps) ra (lastT_mem hp)) (lastT b.parts) (right_part rb (lastT_mem hb))
      have h2 := cntL_app (initT ps) [lastT ps]
      rw [initT_last hp] at h2
      simp only [cntL] at h2
      by_cases hi : initT ps = initT b.parts
      · rw [hc.trans (if_pos hi), fnOf, Ty.cnt, Ty.cnt, cntL_app]
        simp only [cntL, List.length_nil]
        omega
      · rw [hc.trans (if_neg hi), dyn, Ty.cnt, Ty.cnt]
        simp only [cntL, List.length_nil]
        omega
    · have hc := com_else ra rb h3 h4
      by_cases hi : (Ty.mk k ns ps) = b
      · rw [hc.trans (if_pos hi)]
        exact Nat.le_refl _
      · rw [hc.trans (if_neg hi), dyn, Ty.cnt, Ty.cnt]
        simp only [cntL, List.length_nil]
        omega
set_option maxHeartbeats 8000000 in
set_option maxRecDepth 100000 in
theorem tops_walk (w : World) (t0 : Ty) (P0 : Nat → Prop) (N0 : Option Addr) (n0 : Nat) (V0 : Option Addr) (v0 : Nat) (h0 : TI w P0 t0 N0 n0 V0 v0) (t1 : Ty) (P1 : Nat → Prop) (N1 : Option Addr) (n1 : Nat) (V1 : Option Addr) (v1 : Nat) (h1 : TI w P1 t1 N1 n1 V1 v1) (hT : Tabs w) (hE : Errs w) :
    Calls Tryz.prog 10 #[tv t0 N0 n0 V0 v0, tv t1 N1 n1 V1 v1] w fun e w' => e = .returned (.bool true) ∧ Below w.heap.size w w' := by
  have d0 := bel1 w (.cells (tcc t0 N0 n0 V0 v0) 25)
  have d1 := bel1 (w.alloc (.cells (tcc t0 N0 n0 V0 v0) 25)) (.cells (tcc t1 N1 n1 V1 v1) 25)
  have e1 := d0.trans (d1.mono d0.size)
  have R0 : Hid (RowB ((w.alloc (.cells (tcc t0 N0 n0 V0 v0) 25)).alloc (.cells (tcc t1 N1 n1 V1 v1) 25)) (w.heap.size) 25 (tcc t0 N0 n0 V0 v0)) := by
    have := RowB.new w 25 (tcc t0 N0 n0 V0 v0)
    have h2 : w.heap.size = w.heap.size := by simp
    rw [h2] at this
    exact (this.alloc (.cells (tcc t1 N1 n1 V1 v1) 25))
  have R1 : Hid (RowB ((w.alloc (.cells (tcc t0 N0 n0 V0 v0) 25)).alloc (.cells (tcc t1 N1 n1 V1 v1) 25)) (w.heap.size + 1) 25 (tcc t1 N1 n1 V1 v1)) := by
    have := RowB.new (w.alloc (.cells (tcc t0 N0 n0 V0 v0) 25)) 25 (tcc t1 N1 n1 V1 v1)
    have h2 : (w.alloc (.cells (tcc t0 N0 n0 V0 v0) 25)).heap.size = w.heap.size + 1 := by simp
    rw [h2] at this
    exact this
  have I0 := Lib.hid (h0.below e1)
  have I1 := Lib.hid (h1.below e1)
  have HB0 := Lib.hid e1
  have HT := Lib.hid (Tabs.step hT e1)
  have HE := Lib.hid (hE.below e1)
  obtain ⟨W0, hW0⟩ : ∃ W0, W0 = ((w.alloc (.cells (tcc t0 N0 n0 V0 v0) 25)).alloc (.cells (tcc t1 N1 n1 V1 v1) 25)) := ⟨_, rfl⟩
  have r0 := R0.out.cell
  have r1 := R1.out.cell
  rw [← hW0] at I0 I1 HB0 HT HE R0 R1
  have b3 : Hid (Below W0.heap.size W0 (W0.alloc (.cells #[Value.int .i64 t0.kind, .slice N0 t0.names.length n0, .slice V0 t0.parts.length v0, Value.int .i64 t1.kind, .slice N1 t1.names.length n1, .slice V1 t1.parts.length v1] 25))) := bel1 W0 _
  have HV : Hid (TV (W0.alloc (.cells #[Value.int .i64 t0.kind, .slice N0 t0.names.length n0, .slice V0 t0.parts.length v0, Value.int .i64 t1.kind, .slice N1 t1.names.length n1, .slice V1 t1.parts.length v1] 25)) (fun g => (P0 g ∨ P1 g) ∨ g = W0.heap.size) [t0, t1] (some ⟨W0.heap.size, 0, none⟩) 2) := by
    refine TV.new (RowB.new W0 25 _) ?_ (.inr rfl)
    have k0 := (I0.out.below b3.out).mono (Q := (fun g => (P0 g ∨ P1 g) ∨ g = W0.heap.size)) fun g h => .inl (.inl h)
    have k1 := (I1.out.below b3.out).mono (Q := (fun g => (P0 g ∨ P1 g) ∨ g = W0.heap.size)) fun g h => .inl (.inr (h))
    exact TL.app _ _ (TL.one k0) (TL.one k1)
  have CF := Lib.hid (fits10_any _ [t0, t1] _ _ _ HV.out (by simp))
  clear d0 d1 e1 h0 h1 hT hE
  have hsz : W0.heap.size = w.heap.size + 1 + 1 := by rw [hW0]; simp
  have hcf := CF.out
  simp only [List.length_cons, List.length_nil, hsz] at hcf
  have CF2 := Lib.hid hcf
  obtain ⟨ft, hft⟩ : ∃ ft, ft = [t0, t1].all fitB := ⟨_, rfl⟩
  rw [← hft] at CF2
  have HFT := Lib.hid hft
  clear hcf CF hsz hft
  go_enter Tryz.func10, Tryz.ntmps10
  go_wp2_with fail
  rw [← hW0]
  refine CF2.out.mono ?_
  rintro e w1 ⟨rfl, hb1⟩
  have b4 := b3.out.trans (hb1.mono b3.out.size)
  have HB1 := Lib.hid (HB0.out.trans (b4.mono HB0.out.size))
  have X0 := Lib.hid (R0.out.below b4 R0.out.lt)
  have J0 := Lib.hid (I0.out.below b4)
  have X1 := Lib.hid (R1.out.below b4 R1.out.lt)
  have J1 := Lib.hid (I1.out.below b4)
  have HT1 := Lib.hid (Tabs.step HT.out b4)
  have HE1 := Lib.hid (HE.out.below b4)
  have x0 := X0.out.cell
  have x1 := X1.out.cell
  clear hW0 b4 hb1 CF2 b3 HV HT HE HB0 I0 R0 r0 I1 R1 r1
  cases ft with
  | false =>
    have CA := Lib.hid (awake10_any w1 HT1.out HE1.out)
    go_wp2_with fail
    refine CA.out.mono ?_
    rintro e w2 ⟨rfl, hb2⟩
    have HB2 := Lib.hid (HB1.out.trans (hb2.mono HB1.out.size))
    clear hb2 CA
    go_wp2_with fail
    (first | go_ret | go_ret2)
    exact ⟨rfl, HB2.out⟩
  | true =>
    have hfit := HFT.out.symm
    simp only [List.all_cons, List.all_nil, Bool.and_true, Bool.and_eq_true, fitB] at hfit
    obtain ⟨⟨l0, r0⟩, l1, r1⟩ := hfit
    have c0 := (light_cnt l0).1
    have c1 := (light_cnt l1).1
    have hR := com_right _ t0 t1 (Nat.le_refl _) r0 r1
    have hcc := com_comm _ t0 t1 (Nat.le_refl _) r0 r1
    have hf0 := flows_com _ t0 t1 (Nat.le_refl _) r0 r1
    have hf1 : flows t1 (com t0 t1) = true := by rw [hcc]; exact flows_com _ t1 t0 (Nat.le_refl _) r1 r0
    have hcn := com_cnt t0 r0 t1 r1
    have C1 := join_any t0 t1 r0 r1 (by omega) (by omega) w1 _ _ N0 n0 V0 v0 N1 n1 V1 v1 J0.out J1.out
    have CJ2 : Hid (∀ w', Below w1.heap.size w1 w' → Calls Tryz.prog 36 #[tv t1 N1 n1 V1 v1, tv t0 N0 n0 V0 v0] w' (MadeQ (fun g => (P1 g ∨ P0 g) ∨ w'.heap.size ≤ g) (com t0 t1) w')) := fun w' hb => by
      have := join_any t1 t0 r1 r0 (by omega) (by omega) w' _ _ N1 n1 V1 v1 N0 n0 V0 v0 (J1.out.below hb) (J0.out.below hb)
      rw [← hcc] at this
      exact this
    have KA : Hid (∀ w', Below w1.heap.size w1 w' → Calls Tryz.prog 31 #[] w' fun e w2 => e = .returned (.bool true) ∧ Below w'.heap.size w' w2) := fun w' hb => awake10_any w' (Tabs.step HT1.out hb) (HE1.out.below hb)
    obtain ⟨T, hT⟩ : ∃ T, T = com t0 t1 := ⟨_, rfl⟩
    rw [← hT] at C1 CJ2 hR hf0 hf1 hcn
    have HFl : Hid (T.right = true ∧ T.cnt ≤ 1000001 ∧ flows t0 T = true ∧ flows t1 T = true) := ⟨hR, by omega, hf0, hf1⟩
    have HRc : Hid (t0.right = true ∧ t1.right = true ∧ t0.cnt ≤ 1000001 ∧ t1.cnt ≤ 1000001) := ⟨r0, r1, by omega, by omega⟩
    have C2 := Lib.hid C1
    clear hT hcc hR hf0 hf1 hcn C1 l0 l1 r0 r1 c0 c1 HFT HT1 HE1
    have HFA : Hid (∀ w' (P : Nat → Prop) An cn A c, Below w1.heap.size w1 w' → TI w' P T An cn A c → Calls Tryz.prog 32 #[tv t0 N0 n0 V0 v0, tv T An cn A c] w' fun e w2 => e = .returned (.bool true) ∧ Below w'.heap.size w' w2) := fun w' P An cn A c hb ht => by
      have := pflows_any HRc.out.1 HFl.out.1 HRc.out.2.2.1 HFl.out.2.1 w' _ _ _ _ _ _ _ _ _ _ (J0.out.below hb) ht
      rw [HFl.out.2.2.1] at this
      exact this
    have HFB : Hid (∀ w' (P : Nat → Prop) An cn A c, Below w1.heap.size w1 w' → TI w' P T An cn A c → Calls Tryz.prog 32 #[tv t1 N1 n1 V1 v1, tv T An cn A c] w' fun e w2 => e = .returned (.bool true) ∧ Below w'.heap.size w' w2) := fun w' P An cn A c hb ht => by
      have := pflows_any HRc.out.2.1 HFl.out.1 HRc.out.2.2.2 HFl.out.2.1 w' _ _ _ _ _ _ _ _ _ _ (J1.out.below hb) ht
      rw [HFl.out.2.2.2] at this
      exact this
    have HRR : Hid (∀ w' (P : Nat → Prop) An cn A c, TI w' P T An cn A c → Calls Tryz.prog 15 #[tv T An cn A c] w' fun e w2 => e = .returned (.bool true) ∧ Below w'.heap.size w' w2) := fun w' P An cn A c ht => by
      have := rright_any T HFl.out.2.1 w' _ _ _ _ _ ht
      rw [HFl.out.1] at this
      exact this
    have HSS : Hid (∀ w' (P P' : Nat → Prop) An cn A c Bn dn B d, TI w' P T An cn A c → TI w' P' T Bn dn B d → Calls Tryz.prog 21 #[tv T An cn A c, tv T Bn dn B d] w' fun e w2 => e = .returned (.bool true) ∧ Below w'.heap.size w' w2) := fun w' P P' An cn A c Bn dn B d h h' => by
      have := rsame_any T HFl.out.2.1 T HFl.out.2.1 w' _ _ _ _ _ _ _ _ _ _ h h'
      rw [same_refl] at this
      exact this
    obtain ⟨k0, m0, q0⟩ := t0
    obtain ⟨k1, m1, q1⟩ := t1
    obtain ⟨kT, mT, qT⟩ := T
    simp only [tcc, tv, kind_mk, names_mk, parts_mk] at x0 x1 X0 X1 C2 CJ2 HFA HFB HRR HSS
    go_wp2_with fail
    refine C2.out.mono ?_
    rintro e w2 ⟨h2, An, cn, A, c, rfl, ht⟩
    have b5 := bel1 w2 (.cells #[.int .i64 kT, .slice An mT.length cn, .slice A qT.length c] 25)
    have RJ := Lib.hid (RowB.new w2 25 #[.int .i64 kT, .slice An mT.length cn, .slice A qT.length c])
    obtain ⟨w3, hw3⟩ : ∃ w3, w3 = w2.alloc (.cells #[.int .i64 kT, .slice An mT.length cn, .slice A qT.length c] 25) := ⟨_, rfl⟩
    rw [← hw3] at b5 RJ
    have HB3 := Lib.hid (h2.trans (b5.mono h2.size))
    have Y0 := Lib.hid (X0.out.below HB3.out X0.out.lt)
    have Y1 := Lib.hid (X1.out.below HB3.out X1.out.lt)
    have HTT := Lib.hid (ht.below b5)
    have HW3 := Lib.hid hw3
    clear h2 ht b5 C2 x0 x1 hw3
    go_upto_region 4 with fail
    have e3 := HW3.out
    try simp only [tv, kind_mk, names_mk, parts_mk] at e3
    rw [← e3]
    have DD : Below w3.heap.size w3 w3.drew := Below.drew (Below.refl _ _)
    have y0 := Y0.out.cell
    have y1 := Y1.out.cell
    have yj := RJ.out.cell
    have l0 := Y0.out.lt
    have l1 := Y1.out.lt
    have lj := RJ.out.lt
    clear HW3 e3
    refine wp_region_G (S := SG (fun w' => Below w3.heap.size w3 w') 99 (fun _ => True) 99 (fun _ => True)) (by kernel_rfl) ⟨DD, fun _ => trivial, fun _ => trivial⟩ (fun hS => ?_)
    refine wpG_ready (rs := [0]) (by kernel_rfl) (by simp) ?_
    refine RG.consG rfl rfl (fun K hK => ?_) RG.nil
    go_simp
    refine (KA.out _ (HB3.out.trans (DD.mono HB3.out.size))).mono ?_
    rintro e x1 ⟨rfl, hx1⟩
    go_wp2_with fail
    have HG1 := Lib.hid (DD.trans (hx1.mono DD.size))
    clear hx1
    refine hK.out _ _ ⟨HG1.out, fun _ => trivial, fun _ => trivial⟩ (fun hS => ?_)
    clear hK K
    try simp only [Act.put, List.setIfInBounds_toArray, List.set_cons_zero, List.set_cons_succ]
    refine wpG_take0 (i := 1) (v := ?v1) rfl (by kernel_rfl) (by kernel_rfl) (by kernel_rfl) (by decide) (by decide) (fun _ _ _ h => h) hS (Or.inl ⟨by rfl, ?hy1⟩) ?rest1
    case hy1 => (intro w' hw; have u0 := fun j => (hw.cell (p := ⟨w.heap.size, j, none⟩) l0).trans (y0 j); have u1 := fun j => (hw.cell (p := ⟨w.heap.size + 1, j, none⟩) l1).trans (y1 j); have u2 := fun j => (hw.cell (p := ⟨w2.heap.size, j, none⟩) lj).trans (yj j); go_simp; try with_reducible rfl)
    replace hS := SG.set (i := 1) (by decide) (by decide) hS
    try simp only [Act.put, List.setIfInBounds_toArray, List.set_cons_zero, List.set_cons_succ]
    refine wpG_take0 (i := 2) (v := ?v2) rfl (by kernel_rfl) (by kernel_rfl) (by kernel_rfl) (by decide) (by decide) (fun _ _ _ h => h) hS (Or.inl ⟨by rfl, ?hy2⟩) ?rest2
    case hy2 => (intro w' hw; have u0 := fun j => (hw.cell (p := ⟨w.heap.size, j, none⟩) l0).trans (y0 j); have u1 := fun j => (hw.cell (p := ⟨w.heap.size + 1, j, none⟩) l1).trans (y1 j); have u2 := fun j => (hw.cell (p := ⟨w2.heap.size, j, none⟩) lj).trans (yj j); go_simp; try with_reducible rfl)
    replace hS := SG.set (i := 2) (by decide) (by decide) hS
    try simp only [Act.put, List.setIfInBounds_toArray, List.set_cons_zero, List.set_cons_succ]
    refine wpG_ready (rs := [3]) (by kernel_rfl) (by simp) ?_
    refine RG.consG rfl rfl (fun K hK => ?_) RG.nil
    go_simp
    refine (HRR.out _ _ _ _ _ _ (HTT.out.below HG1.out)).mono ?_
    rintro e x2 ⟨rfl, hx2⟩
    go_wp2_with fail
    have HG2 := Lib.hid (HG1.out.trans (hx2.mono HG1.out.size))
    clear hx2
    refine hK.out _ _ ⟨HG2.out, fun _ => trivial, fun _ => trivial⟩ (fun hS => ?_)
    clear hK K
    try simp only [Act.put, List.setIfInBounds_toArray, List.set_cons_zero, List.set_cons_succ]
    refine wpG_take0 (i := 4) (v := ?v3) rfl (by kernel_rfl) (by kernel_rfl) (by kernel_rfl) (by decide) (by decide) (fun _ _ _ h => h) hS (Or.inl ⟨by rfl, ?hy3⟩) ?rest3
    case hy3 => (intro w' hw; have u0 := fun j => (hw.cell (p := ⟨w.heap.size, j, none⟩) l0).trans (y0 j); have u1 := fun j => (hw.cell (p := ⟨w.heap.size + 1, j, none⟩) l1).trans (y1 j); have u2 := fun j => (hw.cell (p := ⟨w2.heap.size, j, none⟩) lj).trans (yj j); go_simp; try with_reducible rfl)
    replace hS := SG.set (i := 4) (by decide) (by decide) hS
    try simp only [Act.put, List.setIfInBounds_toArray, List.set_cons_zero, List.set_cons_succ]
    refine wpG_take0 (i := 5) (v := ?v4) rfl (by kernel_rfl) (by kernel_rfl) (by kernel_rfl) (by decide) (by decide) (fun _ _ _ h => h) hS (Or.inl ⟨by rfl, ?hy4⟩) ?rest4
    case hy4 => (intro w' hw; have u0 := fun j => (hw.cell (p := ⟨w.heap.size, j, none⟩) l0).trans (y0 j); have u1 := fun j => (hw.cell (p := ⟨w.heap.size + 1, j, none⟩) l1).trans (y1 j); have u2 := fun j => (hw.cell (p := ⟨w2.heap.size, j, none⟩) lj).trans (yj j); go_simp; try with_reducible rfl)
    replace hS := SG.set (i := 5) (by decide) (by decide) hS
    try simp only [Act.put, List.setIfInBounds_toArray, List.set_cons_zero, List.set_cons_succ]
    refine wpG_take0 (i := 6) (v := ?v5) rfl (by kernel_rfl) (by kernel_rfl) (by kernel_rfl) (by decide) (by decide) (fun _ _ _ h => h) hS (Or.inl ⟨by rfl, ?hy5⟩) ?rest5
    case hy5 => (intro w' hw; have u0 := fun j => (hw.cell (p := ⟨w.heap.size, j, none⟩) l0).trans (y0 j); have u1 := fun j => (hw.cell (p := ⟨w.heap.size + 1, j, none⟩) l1).trans (y1 j); have u2 := fun j => (hw.cell (p := ⟨w2.heap.size, j, none⟩) lj).trans (yj j); go_simp; try with_reducible rfl)
    replace hS := SG.set (i := 6) (by decide) (by decide) hS
    try simp only [Act.put, List.setIfInBounds_toArray, List.set_cons_zero, List.set_cons_succ]
    refine wpG_take0 (i := 7) (v := ?v6) rfl (by kernel_rfl) (by kernel_rfl) (by kernel_rfl) (by decide) (by decide) (fun _ _ _ h => h) hS (Or.inl ⟨by rfl, ?hy6⟩) ?rest6
    case hy6 => (intro w' hw; have u0 := fun j => (hw.cell (p := ⟨w.heap.size, j, none⟩) l0).trans (y0 j); have u1 := fun j => (hw.cell (p := ⟨w.heap.size + 1, j, none⟩) l1).trans (y1 j); have u2 := fun j => (hw.cell (p := ⟨w2.heap.size, j, none⟩) lj).trans (yj j); go_simp; try with_reducible rfl)
    replace hS := SG.set (i := 7) (by decide) (by decide) hS
    try simp only [Act.put, List.setIfInBounds_toArray, List.set_cons_zero, List.set_cons_succ]
    refine wpG_ready (rs := [8]) (by kernel_rfl) (by simp) ?_
    refine RG.consG rfl rfl (fun K hK => ?_) RG.nil
    go_simp
    refine (HFA.out _ _ _ _ _ _ (HB3.out.trans (HG2.out.mono HB3.out.size)) (HTT.out.below HG2.out)).mono ?_
    rintro e x3 ⟨rfl, hx3⟩
    go_wp2_with fail
    have HG3 := Lib.hid (HG2.out.trans (hx3.mono HG2.out.size))
    clear hx3
    refine hK.out _ _ ⟨HG3.out, fun _ => trivial, fun _ => trivial⟩ (fun hS => ?_)
    clear hK K
    try simp only [Act.put, List.setIfInBounds_toArray, List.set_cons_zero, List.set_cons_succ]
    refine wpG_take0 (i := 9) (v := ?v7) rfl (by kernel_rfl) (by kernel_rfl) (by kernel_rfl) (by decide) (by decide) (fun _ _ _ h => h) hS (Or.inl ⟨by rfl, ?hy7⟩) ?rest7
    case hy7 => (intro w' hw; have u0 := fun j => (hw.cell (p := ⟨w.heap.size, j, none⟩) l0).trans (y0 j); have u1 := fun j => (hw.cell (p := ⟨w.heap.size + 1, j, none⟩) l1).trans (y1 j); have u2 := fun j => (hw.cell (p := ⟨w2.heap.size, j, none⟩) lj).trans (yj j); go_simp; try with_reducible rfl)
    replace hS := SG.set (i := 9) (by decide) (by decide) hS
    try simp only [Act.put, List.setIfInBounds_toArray, List.set_cons_zero, List.set_cons_succ]
    refine wpG_take0 (i := 10) (v := ?v8) rfl (by kernel_rfl) (by kernel_rfl) (by kernel_rfl) (by decide) (by decide) (fun _ _ _ h => h) hS (Or.inl ⟨by rfl, ?hy8⟩) ?rest8
    case hy8 => (intro w' hw; have u0 := fun j => (hw.cell (p := ⟨w.heap.size, j, none⟩) l0).trans (y0 j); have u1 := fun j => (hw.cell (p := ⟨w.heap.size + 1, j, none⟩) l1).trans (y1 j); have u2 := fun j => (hw.cell (p := ⟨w2.heap.size, j, none⟩) lj).trans (yj j); go_simp; try with_reducible rfl)
    replace hS := SG.set (i := 10) (by decide) (by decide) hS
    try simp only [Act.put, List.setIfInBounds_toArray, List.set_cons_zero, List.set_cons_succ]
    refine wpG_take0 (i := 11) (v := ?v9) rfl (by kernel_rfl) (by kernel_rfl) (by kernel_rfl) (by decide) (by decide) (fun _ _ _ h => h) hS (Or.inl ⟨by rfl, ?hy9⟩) ?rest9
    case hy9 => (intro w' hw; have u0 := fun j => (hw.cell (p := ⟨w.heap.size, j, none⟩) l0).trans (y0 j); have u1 := fun j => (hw.cell (p := ⟨w.heap.size + 1, j, none⟩) l1).trans (y1 j); have u2 := fun j => (hw.cell (p := ⟨w2.heap.size, j, none⟩) lj).trans (yj j); go_simp; try with_reducible rfl)
    replace hS := SG.set (i := 11) (by decide) (by decide) hS
    try simp only [Act.put, List.setIfInBounds_toArray, List.set_cons_zero, List.set_cons_succ]
    refine wpG_take0 (i := 12) (v := ?v10) rfl (by kernel_rfl) (by kernel_rfl) (by kernel_rfl) (by decide) (by decide) (fun _ _ _ h => h) hS (Or.inl ⟨by rfl, ?hy10⟩) ?rest10
    case hy10 => (intro w' hw; have u0 := fun j => (hw.cell (p := ⟨w.heap.size, j, none⟩) l0).trans (y0 j); have u1 := fun j => (hw.cell (p := ⟨w.heap.size + 1, j, none⟩) l1).trans (y1 j); have u2 := fun j => (hw.cell (p := ⟨w2.heap.size, j, none⟩) lj).trans (yj j); go_simp; try with_reducible rfl)
    replace hS := SG.set (i := 12) (by decide) (by decide) hS
    try simp only [Act.put, List.setIfInBounds_toArray, List.set_cons_zero, List.set_cons_succ]
    refine wpG_ready (rs := [13]) (by kernel_rfl) (by simp) ?_
    refine RG.consG rfl rfl (fun K hK => ?_) RG.nil
    go_simp
    refine (HFB.out _ _ _ _ _ _ (HB3.out.trans (HG3.out.mono HB3.out.size)) (HTT.out.below HG3.out)).mono ?_
    rintro e x4 ⟨rfl, hx4⟩
    go_wp2_with fail
    have HG4 := Lib.hid (HG3.out.trans (hx4.mono HG3.out.size))
    clear hx4
    refine hK.out _ _ ⟨HG4.out, fun _ => trivial, fun _ => trivial⟩ (fun hS => ?_)
    clear hK K
    try simp only [Act.put, List.setIfInBounds_toArray, List.set_cons_zero, List.set_cons_succ]
    refine wpG_take0 (i := 14) (v := ?v11) rfl (by kernel_rfl) (by kernel_rfl) (by kernel_rfl) (by decide) (by decide) (fun _ _ _ h => h) hS (Or.inl ⟨by rfl, ?hy11⟩) ?rest11
    case hy11 => (intro w' hw; have u0 := fun j => (hw.cell (p := ⟨w.heap.size, j, none⟩) l0).trans (y0 j); have u1 := fun j => (hw.cell (p := ⟨w.heap.size + 1, j, none⟩) l1).trans (y1 j); have u2 := fun j => (hw.cell (p := ⟨w2.heap.size, j, none⟩) lj).trans (yj j); go_simp; try with_reducible rfl)
    replace hS := SG.set (i := 14) (by decide) (by decide) hS
    try simp only [Act.put, List.setIfInBounds_toArray, List.set_cons_zero, List.set_cons_succ]
    refine wpG_take0 (i := 15) (v := ?v12) rfl (by kernel_rfl) (by kernel_rfl) (by kernel_rfl) (by decide) (by decide) (fun _ _ _ h => h) hS (Or.inl ⟨by rfl, ?hy12⟩) ?rest12
    case hy12 => (intro w' hw; have u0 := fun j => (hw.cell (p := ⟨w.heap.size, j, none⟩) l0).trans (y0 j); have u1 := fun j => (hw.cell (p := ⟨w.heap.size + 1, j, none⟩) l1).trans (y1 j); have u2 := fun j => (hw.cell (p := ⟨w2.heap.size, j, none⟩) lj).trans (yj j); go_simp; try with_reducible rfl)
    replace hS := SG.set (i := 15) (by decide) (by decide) hS
    try simp only [Act.put, List.setIfInBounds_toArray, List.set_cons_zero, List.set_cons_succ]
    refine wpG_take0 (i := 16) (v := ?v13) rfl (by kernel_rfl) (by kernel_rfl) (by kernel_rfl) (by decide) (by decide) (fun _ _ _ h => h) hS (Or.inl ⟨by rfl, ?hy13⟩) ?rest13
    case hy13 => (intro w' hw; have u0 := fun j => (hw.cell (p := ⟨w.heap.size, j, none⟩) l0).trans (y0 j); have u1 := fun j => (hw.cell (p := ⟨w.heap.size + 1, j, none⟩) l1).trans (y1 j); have u2 := fun j => (hw.cell (p := ⟨w2.heap.size, j, none⟩) lj).trans (yj j); go_simp; try with_reducible rfl)
    replace hS := SG.set (i := 16) (by decide) (by decide) hS
    try simp only [Act.put, List.setIfInBounds_toArray, List.set_cons_zero, List.set_cons_succ]
    refine wpG_take0 (i := 17) (v := ?v14) rfl (by kernel_rfl) (by kernel_rfl) (by kernel_rfl) (by decide) (by decide) (fun _ _ _ h => h) hS (Or.inl ⟨by rfl, ?hy14⟩) ?rest14
    case hy14 => (intro w' hw; have u0 := fun j => (hw.cell (p := ⟨w.heap.size, j, none⟩) l0).trans (y0 j); have u1 := fun j => (hw.cell (p := ⟨w.heap.size + 1, j, none⟩) l1).trans (y1 j); have u2 := fun j => (hw.cell (p := ⟨w2.heap.size, j, none⟩) lj).trans (yj j); go_simp; try with_reducible rfl)
    replace hS := SG.set (i := 17) (by decide) (by decide) hS
    try simp only [Act.put, List.setIfInBounds_toArray, List.set_cons_zero, List.set_cons_succ]
    refine wpG_take0 (i := 18) (v := ?v15) rfl (by kernel_rfl) (by kernel_rfl) (by kernel_rfl) (by decide) (by decide) (fun _ _ _ h => h) hS (Or.inl ⟨by rfl, ?hy15⟩) ?rest15
    case hy15 => (intro w' hw; have u0 := fun j => (hw.cell (p := ⟨w.heap.size, j, none⟩) l0).trans (y0 j); have u1 := fun j => (hw.cell (p := ⟨w.heap.size + 1, j, none⟩) l1).trans (y1 j); have u2 := fun j => (hw.cell (p := ⟨w2.heap.size, j, none⟩) lj).trans (yj j); go_simp; try with_reducible rfl)
    replace hS := SG.set (i := 18) (by decide) (by decide) hS
    try simp only [Act.put, List.setIfInBounds_toArray, List.set_cons_zero, List.set_cons_succ]
    refine wpG_ready (rs := [19]) (by kernel_rfl) (by simp) ?_
    refine RG.consG rfl rfl (fun K hK => ?_) RG.nil
    go_simp
    refine (CJ2.out _ (HB3.out.trans (HG4.out.mono HB3.out.size))).mono ?_
    rintro e x5 ⟨hx5, Bn, dn, B, d, rfl, ht2⟩
    go_wp2_with fail
    have HG5 := Lib.hid (HG4.out.trans (hx5.mono HG4.out.size))
    clear hx5
    refine hK.out _ _ ⟨HG5.out, fun _ => trivial, fun _ => trivial⟩ (fun hS => ?_)
    clear hK K
    try simp only [Act.put, List.setIfInBounds_toArray, List.set_cons_zero, List.set_cons_succ]
    refine wpG_ready (rs := [20]) (by kernel_rfl) (by simp) ?_
    refine RG.consG rfl rfl (fun K hK => ?_) RG.nil
    go_simp
    refine (HSS.out _ _ _ _ _ _ _ _ _ _ _ (HTT.out.below HG5.out) ht2).mono ?_
    rintro e x6 ⟨rfl, hx6⟩
    go_wp2_with fail
    have HG6 := Lib.hid (HG5.out.trans (hx6.mono HG5.out.size))
    clear hx6
    refine hK.out _ _ ⟨HG6.out, fun _ => trivial, fun _ => trivial⟩ (fun hS => ?_)
    clear hK K
    try simp only [Act.put, List.setIfInBounds_toArray, List.set_cons_zero, List.set_cons_succ]
    refine wpG_take0 (i := 21) (v := ?v16) rfl (by kernel_rfl) (by kernel_rfl) (by kernel_rfl) (by decide) (by decide) (fun _ _ _ h => h) hS (Or.inl ⟨by rfl, ?hy16⟩) ?rest16
    case hy16 => (intro w' hw; have u0 := fun j => (hw.cell (p := ⟨w.heap.size, j, none⟩) l0).trans (y0 j); have u1 := fun j => (hw.cell (p := ⟨w.heap.size + 1, j, none⟩) l1).trans (y1 j); have u2 := fun j => (hw.cell (p := ⟨w2.heap.size, j, none⟩) lj).trans (yj j); go_simp; try with_reducible rfl)
    replace hS := SG.set (i := 21) (by decide) (by decide) hS
    try simp only [Act.put, List.setIfInBounds_toArray, List.set_cons_zero, List.set_cons_succ]
    refine wpG_take0 (i := 22) (v := ?v17) rfl (by kernel_rfl) (by kernel_rfl) (by kernel_rfl) (by decide) (by decide) (fun _ _ _ h => h) hS (Or.inl ⟨by rfl, ?hy17⟩) ?rest17
    case hy17 => (intro w' hw; have u0 := fun j => (hw.cell (p := ⟨w.heap.size, j, none⟩) l0).trans (y0 j); have u1 := fun j => (hw.cell (p := ⟨w.heap.size + 1, j, none⟩) l1).trans (y1 j); have u2 := fun j => (hw.cell (p := ⟨w2.heap.size, j, none⟩) lj).trans (yj j); go_simp; try with_reducible rfl)
    replace hS := SG.set (i := 22) (by decide) (by decide) hS
    try simp only [Act.put, List.setIfInBounds_toArray, List.set_cons_zero, List.set_cons_succ]
    refine wpG_done (by kernel_rfl) ?_ _
    have HFIN := Lib.hid (HB1.out.trans ((HB3.out.trans (HG6.out.mono HB3.out.size)).mono HB1.out.size))
    clear KA CJ2 HFA HFB HRR HSS hS y0 y1 yj
    go_wp2_with fail
    (first | go_ret | go_ret2)
    exact ⟨rfl, HFIN.out⟩
end Tm
end Go.Proofs.YtifkjngclkklfaaGreatDoor
