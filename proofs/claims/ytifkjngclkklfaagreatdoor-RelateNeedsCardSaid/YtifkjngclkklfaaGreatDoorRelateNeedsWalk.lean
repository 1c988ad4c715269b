/- The law RelateNeeds, walked. -/
import Derived.Test.YtifkjngclkklfaaGreatDoorMHa
import Derived.Test.YtifkjngclkklfaaGreatDoorMGr
import Derived.Test.YtifkjngclkklfaaGreatDoorMGs
import Derived.Test.YtifkjngclkklfaaGreatDoorMGu
import Derived.BigQuiet
import Derived.Lib.QuietBelow
namespace Go.Proofs.YtifkjngclkklfaaGreatDoor
open Go.RowKit Go.Op
namespace Tm

set_option maxHeartbeats 16000000 in
set_option maxRecDepth 100000 in
theorem needs_walk (w : World) (t0 : Ty) (P0 : Nat → Prop) (N0 : Option Addr) (n0 : Nat) (V0 : Option Addr) (v0 : Nat) (h0 : TI w P0 t0 N0 n0 V0 v0) (t1 : Ty) (P1 : Nat → Prop) (N1 : Option Addr) (n1 : Nat) (V1 : Option Addr) (v1 : Nat) (h1 : TI w P1 t1 N1 n1 V1 v1) (t2 : Ty) (P2 : Nat → Prop) (N2 : Option Addr) (n2 : Nat) (V2 : Option Addr) (v2 : Nat) (h2 : TI w P2 t2 N2 n2 V2 v2) (hT : Tabs w) (hE : Errs w) :
    Calls Tryz.prog 11 #[tv t0 N0 n0 V0 v0, tv t1 N1 n1 V1 v1, tv t2 N2 n2 V2 v2] w fun e w' => e = .returned (.bool true) ∧ Below w.heap.size w w' := by
  have d0 := bel1 w (.cells (tcc t0 N0 n0 V0 v0) 25)
  have d1 := bel1 (w.alloc (.cells (tcc t0 N0 n0 V0 v0) 25)) (.cells (tcc t1 N1 n1 V1 v1) 25)
  have d2 := bel1 ((w.alloc (.cells (tcc t0 N0 n0 V0 v0) 25)).alloc (.cells (tcc t1 N1 n1 V1 v1) 25)) (.cells (tcc t2 N2 n2 V2 v2) 25)
  have e1 := d0.trans (d1.mono d0.size)
  have e2 := e1.trans (d2.mono e1.size)
  have R0 : Hid (RowB (((w.alloc (.cells (tcc t0 N0 n0 V0 v0) 25)).alloc (.cells (tcc t1 N1 n1 V1 v1) 25)).alloc (.cells (tcc t2 N2 n2 V2 v2) 25)) (w.heap.size) 25 (tcc t0 N0 n0 V0 v0)) := by
    have := RowB.new w 25 (tcc t0 N0 n0 V0 v0)
    have h2 : w.heap.size = w.heap.size := by simp
    rw [h2] at this
    exact ((this.alloc (.cells (tcc t1 N1 n1 V1 v1) 25)).alloc (.cells (tcc t2 N2 n2 V2 v2) 25))
  have R1 : Hid (RowB (((w.alloc (.cells (tcc t0 N0 n0 V0 v0) 25)).alloc (.cells (tcc t1 N1 n1 V1 v1) 25)).alloc (.cells (tcc t2 N2 n2 V2 v2) 25)) (w.heap.size + 1) 25 (tcc t1 N1 n1 V1 v1)) := by
    have := RowB.new (w.alloc (.cells (tcc t0 N0 n0 V0 v0) 25)) 25 (tcc t1 N1 n1 V1 v1)
    have h2 : (w.alloc (.cells (tcc t0 N0 n0 V0 v0) 25)).heap.size = w.heap.size + 1 := by simp
    rw [h2] at this
    exact (this.alloc (.cells (tcc t2 N2 n2 V2 v2) 25))
  have R2 : Hid (RowB (((w.alloc (.cells (tcc t0 N0 n0 V0 v0) 25)).alloc (.cells (tcc t1 N1 n1 V1 v1) 25)).alloc (.cells (tcc t2 N2 n2 V2 v2) 25)) (w.heap.size + 1 + 1) 25 (tcc t2 N2 n2 V2 v2)) := by
    have := RowB.new ((w.alloc (.cells (tcc t0 N0 n0 V0 v0) 25)).alloc (.cells (tcc t1 N1 n1 V1 v1) 25)) 25 (tcc t2 N2 n2 V2 v2)
    have h2 : ((w.alloc (.cells (tcc t0 N0 n0 V0 v0) 25)).alloc (.cells (tcc t1 N1 n1 V1 v1) 25)).heap.size = w.heap.size + 1 + 1 := by simp
    rw [h2] at this
    exact this
  have I0 := Lib.hid (h0.below e2)
  have I1 := Lib.hid (h1.below e2)
  have I2 := Lib.hid (h2.below e2)
  have HB0 := Lib.hid e2
  have HT := Lib.hid (Tabs.step hT e2)
  have HE := Lib.hid (hE.below e2)
  obtain ⟨W0, hW0⟩ : ∃ W0, W0 = (((w.alloc (.cells (tcc t0 N0 n0 V0 v0) 25)).alloc (.cells (tcc t1 N1 n1 V1 v1) 25)).alloc (.cells (tcc t2 N2 n2 V2 v2) 25)) := ⟨_, rfl⟩
  have r0 := R0.out.cell
  have r1 := R1.out.cell
  have r2 := R2.out.cell
  rw [← hW0] at I0 I1 I2 HB0 HT HE R0 R1 R2
  have b3 : Hid (Below W0.heap.size W0 (W0.alloc (.cells #[Value.int .i64 t0.kind, .slice N0 t0.names.length n0, .slice V0 t0.parts.length v0, Value.int .i64 t1.kind, .slice N1 t1.names.length n1, .slice V1 t1.parts.length v1, Value.int .i64 t2.kind, .slice N2 t2.names.length n2, .slice V2 t2.parts.length v2] 25))) := bel1 W0 _
  have HV : Hid (TV (W0.alloc (.cells #[Value.int .i64 t0.kind, .slice N0 t0.names.length n0, .slice V0 t0.parts.length v0, Value.int .i64 t1.kind, .slice N1 t1.names.length n1, .slice V1 t1.parts.length v1, Value.int .i64 t2.kind, .slice N2 t2.names.length n2, .slice V2 t2.parts.length v2] 25)) (fun g => (P0 g ∨ P1 g ∨ P2 g) ∨ g = W0.heap.size) [t0, t1, t2] (some ⟨W0.heap.size, 0, none⟩) 3) := by
    refine TV.new (RowB.new W0 25 _) ?_ (.inr rfl)
    have k0 := (I0.out.below b3.out).mono (Q := (fun g => (P0 g ∨ P1 g ∨ P2 g) ∨ g = W0.heap.size)) fun g h => .inl (.inl h)
    have k1 := (I1.out.below b3.out).mono (Q := (fun g => (P0 g ∨ P1 g ∨ P2 g) ∨ g = W0.heap.size)) fun g h => .inl (.inr (.inl h))
    have k2 := (I2.out.below b3.out).mono (Q := (fun g => (P0 g ∨ P1 g ∨ P2 g) ∨ g = W0.heap.size)) fun g h => .inl (.inr (.inr (h)))
    exact TL.app _ _ (TL.one k0) (TL.app _ _ (TL.one k1) (TL.one k2))
  have CF := Lib.hid (fits10_any _ [t0, t1, t2] _ _ _ HV.out (by simp))
  clear d0 d1 d2 e1 e2 h0 h1 h2 hT hE
  have hsz : W0.heap.size = w.heap.size + 1 + 1 + 1 := by rw [hW0]; simp
  have hcf := CF.out
  simp only [List.length_cons, List.length_nil, hsz] at hcf
  have CF2 := Lib.hid hcf
  obtain ⟨ft, hft⟩ : ∃ ft, ft = [t0, t1, t2].all fitB := ⟨_, rfl⟩
  rw [← hft] at CF2
  have HFT := Lib.hid hft
  clear hcf CF hsz hft
  go_enter Tryz.func11, Tryz.ntmps11
  go_wp2_with fail
  rw [← hW0]
  refine CF2.out.mono ?_
  rintro e w1 ⟨rfl, hb1⟩
  have b4 := b3.out.trans (hb1.mono b3.out.size)
  have HB1 := Lib.hid (HB0.out.trans (b4.mono HB0.out.size))
  have X0 := Lib.hid (R0.out.below b4 R0.out.lt)
  have J0 := Lib.hid (I0.out.below b4)
  have X1 := Lib.hid (R1.out.below b4 R1.out.lt)
  have J1 := Lib.hid (I1.out.below b4)
  have X2 := Lib.hid (R2.out.below b4 R2.out.lt)
  have J2 := Lib.hid (I2.out.below b4)
  have HT1 := Lib.hid (Tabs.step HT.out b4)
  have HE1 := Lib.hid (HE.out.below b4)
  have x0 := X0.out.cell
  have x1 := X1.out.cell
  have x2 := X2.out.cell
  clear hW0 b4 hb1 CF2 b3 HV HT HE HB0 I0 R0 r0 I1 R1 r1 I2 R2 r2
  cases ft with
  | false =>
    have CA := Lib.hid (awake10_any w1 HT1.out HE1.out)
    go_wp2_with fail
    refine CA.out.mono ?_
    rintro e w2 ⟨rfl, hb2⟩
    have HB2 := Lib.hid (HB1.out.trans (hb2.mono HB1.out.size))
    clear hb2 CA
    go_wp2_with fail
    (first | go_ret | go_ret2)
    exact ⟨rfl, HB2.out⟩
  | true =>

    have hfit := HFT.out.symm
    simp only [List.all_cons, List.all_nil, Bool.and_true, Bool.and_eq_true, fitB] at hfit
    obtain ⟨⟨l0, r0⟩, ⟨l1, r1⟩, l2, r2⟩ := hfit
    have c0 := (light_cnt l0).1
    have c1 := (light_cnt l1).1
    have c2 := (light_cnt l2).1
    have HNF : Hid ((decide (t1.kind ≠ 0) && !(t0.same t1)) = false → flows t0 t1 = true) := fun h => needs_flows r0 r1 h
    have HZ : ∀ w' (P : Nat → Prop), TI w' P dyn none 0 none 0 := fun w' P => TI_iff.2 ⟨NV.nil w' P _ _, TV.nil w' P _ _⟩
    have hzc : dyn.cnt ≤ 1000001 := by decide
    have KN0 : ∀ w', Below w1.heap.size w1 w' → ∀ va vb r, (va = tv t0 N0 n0 V0 v0 ∧ vb = tv t1 N1 n1 V1 v1 ∧ r = (decide (t1.kind ≠ 0) && !(t0.same t1))) ∨ (va = tv t0 N0 n0 V0 v0 ∧ vb = tv t0 N0 n0 V0 v0 ∧ r = false) ∨ (va = tv t0 N0 n0 V0 v0 ∧ vb = .agg #[.int .i64 0, .slice none 0 0, .slice none 0 0] ∧ r = false) → Calls Tryz.prog 34 #[va, vb] w' fun e w2 => e = .returned (.bool r) ∧ Below w'.heap.size w' w2 := by
      intro w' hb va vb r h
      rcases h with ⟨rfl, rfl, rfl⟩ | ⟨rfl, rfl, rfl⟩ | ⟨rfl, rfl, rfl⟩
      · exact needs_any (by omega) (by omega) w' _ _ _ _ _ _ _ _ _ _ (J0.out.below hb) (J1.out.below hb)
      · have := needs_any (a := t0) (b := t0) (by omega) (by omega) w' _ _ _ _ _ _ _ _ _ _ (J0.out.below hb) (J0.out.below hb)
        rw [same_refl, Bool.not_true, Bool.and_false] at this
        exact this
      · have := needs_any (a := t0) (b := dyn) (by omega) hzc w' _ _ _ _ _ _ _ _ _ _ (J0.out.below hb) (HZ w' (fun _ => True))
        exact this
    have KF : Hid (∀ w', Below w1.heap.size w1 w' → Calls Tryz.prog 32 #[tv t0 N0 n0 V0 v0, tv t1 N1 n1 V1 v1] w' fun e w2 => e = .returned (.bool (flows t0 t1)) ∧ Below w'.heap.size w' w2) := fun w' hb => pflows_any r0 r1 (by omega) (by omega) w' _ _ _ _ _ _ _ _ _ _ (J0.out.below hb) (J1.out.below hb)
    have KA : Hid (∀ w', Below w1.heap.size w1 w' → Calls Tryz.prog 31 #[] w' fun e w2 => e = .returned (.bool true) ∧ Below w'.heap.size w' w2) := fun w' hb => awake10_any w' (Tabs.step HT1.out hb) (HE1.out.below hb)
    have KG : Hid (∀ w' P An cn A c P' Bn dn B d, TI w' P (fnOf [t2] t0) An cn A c → TI w' P' (fnOf [t2] t1) Bn dn B d → Calls Tryz.prog 32 #[tv (fnOf [t2] t0) An cn A c, tv (fnOf [t2] t1) Bn dn B d] w' fun e w2 => e = .returned (.bool (flows t0 t1)) ∧ Below w'.heap.size w' w2) := fun w' P An cn A c P' Bn dn B d h h' => by
      have k0 := one_cnt (a := t0) (c := t2)
      have k1 := one_cnt (a := t1) (c := t2)
      have := pflows_any (one_right r0 r2) (one_right r1 r2) (by omega) (by omega) w' _ _ _ _ _ _ _ _ _ _ h h'
      rw [res_flows r2] at this
      exact this
    have KH : Hid (∀ w' P An cn A c P' Bn dn B d, TI w' P (fnOf [t1] t2) An cn A c → TI w' P' (fnOf [t0] t2) Bn dn B d → Calls Tryz.prog 32 #[tv (fnOf [t1] t2) An cn A c, tv (fnOf [t0] t2) Bn dn B d] w' fun e w2 => e = .returned (.bool (flows t0 t1)) ∧ Below w'.heap.size w' w2) := fun w' P An cn A c P' Bn dn B d h h' => by
      have k0 := one_cnt (a := t2) (c := t0)
      have k1 := one_cnt (a := t2) (c := t1)
      have := pflows_any (one_right r2 r1) (one_right r2 r0) (by omega) (by omega) w' _ _ _ _ _ _ _ _ _ _ h h'
      rw [par_flows r2] at this
      exact this
    have KL : Hid (∀ x m y q, t1 = .mk 3 (x :: m) (y :: q) → flows t0 t1 = true → ∀ w' P An cn A c, TI w' P (.mk 3 m q) An cn A c → Below w1.heap.size w1 w' → Calls Tryz.prog 32 #[tv t0 N0 n0 V0 v0, tv (.mk 3 m q) An cn A c] w' (fun e w2 => e = .returned (.bool true) ∧ Below w'.heap.size w' w2) ∧ Calls Tryz.prog 32 #[tv t1 N1 n1 V1 v1, tv (.mk 3 m q) An cn A c] w' (fun e w2 => e = .returned (.bool true) ∧ Below w'.heap.size w' w2)) := fun x m y q he hf w' P An cn A c h hb => by
      rw [he] at r1 c1 hf
      have hr := less_right r1
      have hc := less_cnt (x := x) (bn := m) (q := y) (bp := q)
      have h1 := pflows_any r0 hr (by omega) (by omega) w' _ _ _ _ _ _ _ _ _ _ (J0.out.below hb) h
      have h2 := pflows_any r1 hr (by omega) (by omega) w' _ _ _ _ _ _ _ _ _ _ (by rw [← he]; exact J1.out.below hb) h
      rw [less_flows hf] at h1
      rw [less_flows (flows_refl _ r1)] at h2
      refine ⟨h1, ?_⟩
      rw [← he] at h2
      exact h2
    have HRL : Hid (t1.kind = 3 → t1.names.length = t1.parts.length) := fun h => (right_rec r1 h).1
    obtain ⟨fl, hfl⟩ : ∃ x, x = flows t0 t1 := ⟨_, rfl⟩
    obtain ⟨nd, hnd⟩ : ∃ x, x = (decide (t1.kind ≠ 0) && !(t0.same t1)) := ⟨_, rfl⟩
    rw [← hfl] at KF KG KH KL HNF
    rw [← hnd] at KN0 HNF
    clear hfl hnd HZ hzc l0 l1 l2 r0 r1 r2 c0 c1 c2 HFT HT1 HE1
    obtain ⟨k0, m0, q0⟩ := t0
    obtain ⟨k1, m1, q1⟩ := t1
    obtain ⟨k2, m2, q2⟩ := t2
    simp only [tcc, tv, kind_mk, names_mk, parts_mk] at x0 x1 x2 X0 X1 X2 KN0 KF KL HRL
    have KN := Lib.hid KN0
    clear KN0
    obtain ⟨W1, hW1⟩ : ∃ W1, W1 = w1 := ⟨_, rfl⟩
    have HW1 : Hid (Below w1.heap.size w1 W1) := by rw [hW1]; exact Below.refl _ _
    rw [← hW1] at x0 x1 x2 ⊢
    clear hW1
    go_upto_region 3 with fail
    go_cut [38] from 19 to 39 (fun s38 wx => s38 = .bool false ∧ Hid (Below w1.heap.size w1 wx))
    case first =>
      go_wp2_with fail

      refine (KN.out W1 HW1.out _ _ _ (.inl ⟨rfl, rfl, rfl⟩)).mono ?_
      rintro e W2 ⟨rfl, hb⟩
      have HW2 := Lib.hid (HW1.out.trans (hb.mono HW1.out.size))
      clear x0 x1 x2 hb HW1
      have x0 := (X0.out.below HW2.out X0.out.lt).cell
      have x1 := (X1.out.below HW2.out X1.out.lt).cell
      have x2 := (X2.out.below HW2.out X2.out.lt).cell
      cases nd with
      | true =>
        go_wp2_with fail
        refine (KN.out W2 HW2.out _ _ _ (.inr (.inl ⟨rfl, rfl, rfl⟩))).mono ?_
        rintro e W3 ⟨rfl, hb⟩
        have HW3 := Lib.hid (HW2.out.trans (hb.mono HW2.out.size))
        clear x0 x1 x2 hb HW2
        have x0 := (X0.out.below HW3.out X0.out.lt).cell
        have x1 := (X1.out.below HW3.out X1.out.lt).cell
        have x2 := (X2.out.below HW3.out X2.out.lt).cell
        go_wp2_with fail
        refine (KN.out W3 HW3.out _ _ _ (.inr (.inr ⟨rfl, rfl, rfl⟩))).mono ?_
        rintro e W4 ⟨rfl, hb⟩
        have HW4 := Lib.hid (HW3.out.trans (hb.mono HW3.out.size))
        clear x0 x1 x2 hb HW3
        have x0 := (X0.out.below HW4.out X0.out.lt).cell
        have x1 := (X1.out.below HW4.out X1.out.lt).cell
        have x2 := (X2.out.below HW4.out X2.out.lt).cell
        go_wp2_with fail
        go_meet
        exact ⟨rfl, HW4.out⟩
      | false =>
        have hfl := HNF.out rfl
        subst hfl
        go_wp2_with fail
        refine (KF.out W2 HW2.out).mono ?_
        rintro e W3 ⟨rfl, hb⟩
        have HW3 := Lib.hid (HW2.out.trans (hb.mono HW2.out.size))
        clear x0 x1 x2 hb HW2
        have x0 := (X0.out.below HW3.out X0.out.lt).cell
        have x1 := (X1.out.below HW3.out X1.out.lt).cell
        have x2 := (X2.out.below HW3.out X2.out.lt).cell
        go_wp2_with fail
        refine (KN.out W3 HW3.out _ _ _ (.inr (.inl ⟨rfl, rfl, rfl⟩))).mono ?_
        rintro e W4 ⟨rfl, hb⟩
        have HW4 := Lib.hid (HW3.out.trans (hb.mono HW3.out.size))
        clear x0 x1 x2 hb HW3
        have x0 := (X0.out.below HW4.out X0.out.lt).cell
        have x1 := (X1.out.below HW4.out X1.out.lt).cell
        have x2 := (X2.out.below HW4.out X2.out.lt).cell
        go_wp2_with fail
        refine (KN.out W4 HW4.out _ _ _ (.inr (.inr ⟨rfl, rfl, rfl⟩))).mono ?_
        rintro e W5 ⟨rfl, hb⟩
        have HW5 := Lib.hid (HW4.out.trans (hb.mono HW4.out.size))
        clear x0 x1 x2 hb HW4
        have x0 := (X0.out.below HW5.out X0.out.lt).cell
        have x1 := (X1.out.below HW5.out X1.out.lt).cell
        have x2 := (X2.out.below HW5.out X2.out.lt).cell
        go_wp2_with fail
        go_meet
        exact ⟨rfl, HW5.out⟩

    case rest =>
    obtain ⟨rfl, HV1⟩ := hcut
    clear x0 x1 x2 HW1 HNF KN
    have x0 := (X0.out.below HV1.out X0.out.lt).cell
    have x1 := (X1.out.below HV1.out X1.out.lt).cell
    have x2 := (X2.out.below HV1.out X2.out.lt).cell

    go_upto_region 5 with fail
    go_cut [52] from 39 to 53 (fun s52 wx => ∃ qb : Bool, s52 = .bool qb ∧ Hid (qb = true → k1 = 3 ∧ 0 < m1.length ∧ fl = true) ∧ Hid (Below w1.heap.size w1 wx))
    case first =>
      by_cases hk : k1 = 3
      · subst hk
        by_cases hm : 0 < m1.length
        · have hmi : (0 : Int) < (m1.length : Int) := by omega
          go_wp2_with fail
          refine (KF.out wc HV1.out).mono ?_
          rintro e U1 ⟨rfl, hb⟩
          have HU1 := Lib.hid (HV1.out.trans (hb.mono HV1.out.size))
          clear x0 x1 x2 hb
          have x0 := (X0.out.below HU1.out X0.out.lt).cell
          have x1 := (X1.out.below HU1.out X1.out.lt).cell
          have x2 := (X2.out.below HU1.out X2.out.lt).cell
          go_wp2_with fail
          go_meet
          exact ⟨fl, rfl, fun h => ⟨by first | rfl | trivial, hm, h⟩, HU1.out⟩
        · have hmi : ¬ (0 : Int) < (m1.length : Int) := by omega
          go_wp2_with fail
          go_meet
          exact ⟨false, rfl, (fun h => by cases h), HV1.out⟩
      · go_wp2_with fail
        go_meet
        exact ⟨false, rfl, (fun h => by cases h), HV1.out⟩
    case rest =>
    obtain ⟨qb, rfl, HQ, HV2⟩ := hcut
    clear x0 x1 x2 HV1
    have Y0 := Lib.hid (X0.out.below HV2.out X0.out.lt)
    have Y1 := Lib.hid (X1.out.below HV2.out X1.out.lt)
    go_upto_if 52 with fail
    go_cut [7] from 53 to 70 (fun s7 wx => Hid (Below w1.heap.size w1 wx))
    case first =>
      cases qb with
      | false =>
        go_wp2_with fail
        go_meet
        exact HV2.out
      | true =>
        obtain ⟨rfl, hm, rfl⟩ := HQ.out rfl
        have hl := HRL.out rfl
        cases m1 with
        | nil => exact absurd hm (by simp)
        | cons y m =>
        cases q1 with
        | nil => exact absurd hl (by simp)
        | cons z q =>
        obtain ⟨hn, hv⟩ := TI_iff.1 (J1.out.below HV2.out)
        simp only [names_mk, parts_mk] at hn hv
        obtain ⟨g0, o0, rfl, _, hg0, _⟩ := hn.nth (i := 0) rfl
        obtain ⟨g1, o1, _, _, _, _, rfl, _⟩ := hv.nth (i := 0) rfl
        have hc1 := hn.1
        have hc2 := hv.1
        simp only [List.length_cons] at hc1 hc2
        have HTL : Hid (TI wc P1 (.mk 3 m q) (if n1 = 1 then some ⟨g0, o0, none⟩ else some ⟨g0, o0 + 1, none⟩) (n1 - 1) (if v1 = 1 then some ⟨g1, o1, none⟩ else some ⟨g1, o1 + 3, none⟩) (v1 - 1)) := by
          refine TI_iff.2 ⟨?_, ?_⟩
          · cases m with
            | nil => exact NV.nil _ _ _ _
            | cons _ _ => rw [if_neg (by simp at hc1; omega)]; exact hn.drop 1 (by simp)
          · cases q with
            | nil => exact TV.nil _ _ _ _
            | cons _ _ => rw [if_neg (by simp at hc2; omega)]; exact hv.drop 1 (by simp)
        have h1m : (1 : Int) ≤ (m.length : Int) + 1 := by omega
        have h1q : (1 : Int) ≤ (q.length : Int) + 1 := by omega
        have HL := Lib.hid (KL.out y m z q rfl rfl)
        have d1 : Below wc.heap.size wc wc.drew := Below.drew (Below.refl _ _)
        clear hn hv hm hl HQ KL HRL hg0
        go_upto_region 6 with fail
        refine wp_region_G (S := SG (fun w' => Below wc.heap.size wc w') 99 (fun _ => True) 99 (fun _ => True)) (by kernel_rfl) ⟨d1, fun _ => trivial, fun _ => trivial⟩ (fun hS => ?_)
        refine wpG_take0 (i := 0) (v := ?v1) rfl (by kernel_rfl) (by kernel_rfl) (by kernel_rfl) (by decide) (by decide) (fun _ _ _ h => h) hS (Or.inl ⟨by rfl, ?hy1⟩) ?rest1
        case hy1 => (intro w' hw; have u1 := (Y1.out.below hw Y1.out.lt).cell; simp only [List.length_cons] at u1; go_simp; try with_reducible rfl)
        replace hS := SG.set (i := 0) (by decide) (by decide) hS
        try simp only [Act.put, List.setIfInBounds_toArray, List.set_cons_zero, List.set_cons_succ]
        refine wpG_take0 (i := 1) (v := ?v2) rfl (by kernel_rfl) (by kernel_rfl) (by kernel_rfl) (by decide) (by decide) (fun _ _ _ h => h) hS (Or.inl ⟨by rfl, ?hy2⟩) ?rest2
        case hy2 => (intro w' hw; have u1 := (Y1.out.below hw Y1.out.lt).cell; simp only [List.length_cons] at u1; go_simp; try with_reducible rfl)
        replace hS := SG.set (i := 1) (by decide) (by decide) hS
        try simp only [Act.put, List.setIfInBounds_toArray, List.set_cons_zero, List.set_cons_succ]
        refine wpG_take0 (i := 2) (v := ?v3) rfl (by kernel_rfl) (by kernel_rfl) (by kernel_rfl) (by decide) (by decide) (fun _ _ _ h => h) hS (Or.inl ⟨by rfl, ?hy3⟩) ?rest3
        case hy3 => (intro w' hw; have u1 := (Y1.out.below hw Y1.out.lt).cell; simp only [List.length_cons] at u1; go_simp; try with_reducible rfl)
        replace hS := SG.set (i := 2) (by decide) (by decide) hS
        try simp only [Act.put, List.setIfInBounds_toArray, List.set_cons_zero, List.set_cons_succ]
        refine wpG_take0 (i := 3) (v := ?v4) rfl (by kernel_rfl) (by kernel_rfl) (by kernel_rfl) (by decide) (by decide) (fun _ _ _ h => h) hS (Or.inl ⟨by rfl, ?hy4⟩) ?rest4
        case hy4 => (intro w' hw; have u1 := (Y1.out.below hw Y1.out.lt).cell; simp only [List.length_cons] at u1; go_simp; try with_reducible rfl)
        replace hS := SG.set (i := 3) (by decide) (by decide) hS
        try simp only [Act.put, List.setIfInBounds_toArray, List.set_cons_zero, List.set_cons_succ]
        refine wpG_take0 (i := 4) (v := ?v5) rfl (by kernel_rfl) (by kernel_rfl) (by kernel_rfl) (by decide) (by decide) (fun _ _ _ h => h) hS (Or.inl ⟨by rfl, ?hy5⟩) ?rest5
        case hy5 => (intro w' hw; have u1 := (Y1.out.below hw Y1.out.lt).cell; simp only [List.length_cons] at u1; go_simp; try with_reducible rfl)
        replace hS := SG.set (i := 4) (by decide) (by decide) hS
        try simp only [Act.put, List.setIfInBounds_toArray, List.set_cons_zero, List.set_cons_succ]
        refine wpG_take0 (i := 5) (v := ?v6) rfl (by kernel_rfl) (by kernel_rfl) (by kernel_rfl) (by decide) (by decide) (fun _ _ _ h => h) hS (Or.inl ⟨by rfl, ?hy6⟩) ?rest6
        case hy6 => (intro w' hw; have u1 := (Y1.out.below hw Y1.out.lt).cell; simp only [List.length_cons] at u1; go_simp; try with_reducible rfl)
        replace hS := SG.set (i := 5) (by decide) (by decide) hS
        try simp only [Act.put, List.setIfInBounds_toArray, List.set_cons_zero, List.set_cons_succ]
        refine wpG_take0 (i := 6) (v := ?v7) rfl (by kernel_rfl) (by kernel_rfl) (by kernel_rfl) (by decide) (by decide) (fun _ _ _ h => h) hS (Or.inl ⟨by rfl, ?hy7⟩) ?rest7
        case hy7 => (intro w' hw; have u1 := (Y1.out.below hw Y1.out.lt).cell; simp only [List.length_cons] at u1; go_simp; try with_reducible rfl)
        replace hS := SG.set (i := 6) (by decide) (by decide) hS
        try simp only [Act.put, List.setIfInBounds_toArray, List.set_cons_zero, List.set_cons_succ]
        obtain ⟨NA, hNA⟩ : ∃ NA : Option Addr, NA = (if n1 = 1 then some ⟨g0, o0, none⟩ else some ⟨g0, o0 + 1, none⟩) := ⟨_, rfl⟩
        obtain ⟨VA, hVA⟩ : ∃ VA : Option Addr, VA = (if v1 = 1 then some ⟨g1, o1, none⟩ else some ⟨g1, o1 + 3, none⟩) := ⟨_, rfl⟩
        rw [← hNA, ← hVA] at HTL
        rw [← hNA, ← hVA]
        clear hNA hVA
        have d2 := d1.trans ((bel1 wc.drew (.cells tzc 25)).mono d1.size)
        have d3 : Below wc.heap.size wc (wc.alloc (.cells #[Value.int .i64 3, .slice NA m.length (n1 - 1), .slice VA q.length (v1 - 1)] 25)).drew := Below.drew (bel1 wc _)
        have R7 : RowB (wc.alloc (.cells #[Value.int .i64 3, .slice NA m.length (n1 - 1), .slice VA q.length (v1 - 1)] 25)).drew wc.heap.size 25 #[Value.int .i64 3, .slice NA m.length (n1 - 1), .slice VA q.length (v1 - 1)] := RowB.new wc 25 _
        refine wpG_ready (rs := [7]) (by kernel_rfl) (by simp) ?_
        refine RG.consG rfl rfl (fun K hK => ?_) RG.nil
        go_simp
        refine hK.out _ _ ⟨d2, fun _ => trivial, fun _ => trivial⟩ (fun hS => ?_)
        clear hK K
        try simp only [Act.put, List.setIfInBounds_toArray, List.set_cons_zero, List.set_cons_succ]
        refine wpG_ready (rs := [8]) (by kernel_rfl) (by simp) ?_
        refine RG.consG rfl rfl (fun K hK => ?_) RG.nil
        have zr := (RowB.new wc.drew 25 tzc).cell
        have zt := (RowB.new wc.drew 25 tzc).thaw
        go_simp
        refine hK.out _ _ ⟨d3, fun _ => trivial, fun _ => trivial⟩ (fun hS => ?_)
        clear hK K zr zt
        try simp only [Act.put, List.setIfInBounds_toArray, List.set_cons_zero, List.set_cons_succ]
        refine wpG_done (by kernel_rfl) ?_ _
        obtain ⟨U1, hU1⟩ : ∃ U1, U1 = (wc.alloc (.cells #[Value.int .i64 3, .slice NA m.length (n1 - 1), .slice VA q.length (v1 - 1)] 25)).drew := ⟨_, rfl⟩
        rw [← hU1] at d3 R7 ⊢
        have HU1 := Lib.hid (HV2.out.trans (d3.mono HV2.out.size))
        have HT1 := Lib.hid (HTL.out.below d3)
        have HR7 := Lib.hid R7
        clear hU1 hS d1 d2 d3 R7 HV2 HTL h1m h1q
        have x0 := (X0.out.below HU1.out X0.out.lt).cell
        have x1 := (X1.out.below HU1.out X1.out.lt).cell
        have x7 := HR7.out.cell
        go_wp2_with fail
        refine (HL.out U1 _ _ _ _ _ HT1.out HU1.out).1.mono ?_
        rintro e U2 ⟨rfl, hb⟩
        have HU2 := Lib.hid (HU1.out.trans (hb.mono HU1.out.size))
        have HT2 := Lib.hid (HT1.out.below hb)
        have HR8 := Lib.hid (HR7.out.below hb HR7.out.lt)
        clear x0 x1 x7 hb
        have x1 := (X1.out.below HU2.out X1.out.lt).cell
        have x7 := HR8.out.cell
        go_wp2_with fail
        refine (HL.out U2 _ _ _ _ _ HT2.out HU2.out).2.mono ?_
        rintro e U3 ⟨rfl, hb⟩
        have HU3 := Lib.hid (HU2.out.trans (hb.mono HU2.out.size))
        clear x1 x7 hb
        go_wp2_with fail
        go_meet
        exact HU3.out

    case rest =>
    have HV3 := hcut
    clear hcut
    have Y0 := Lib.hid (X0.out.below HV3.out X0.out.lt)
    have Y1 := Lib.hid (X1.out.below HV3.out X1.out.lt)
    have Y2 := Lib.hid (X2.out.below HV3.out X2.out.lt)
    have T0 := Lib.hid (J0.out.below HV3.out)
    have T1 := Lib.hid (J1.out.below HV3.out)
    have T2 := Lib.hid (J2.out.below HV3.out)
    go_upto_region 9 with fail
    go_cut [8, 9] from 70 to 78 (fun s8 s9 wx => Hid (MR w1 wx s8 (fnOf [.mk k2 m2 q2] (.mk k0 m0 q0))) ∧ Hid (MR w1 wx s9 (fnOf [.mk k2 m2 q2] (.mk k1 m1 q1))) ∧ Hid (Below w1.heap.size w1 wx))
    case first =>
      clear KH KG KA HB1
      have d0 : Below wc.heap.size wc wc.drew := Below.drew (Below.refl _ _)
      have I0 := Lib.hid (I9.start wc wc.drew (.mk k0 m0 q0) (.mk k2 m2 q2) (.mk k1 m1 q1) (.mk k2 m2 q2) d0)
      refine wp_region_G (S := SG (fun w' => Below wc.heap.size wc w') 99 (fun _ => True) 99 (fun _ => True)) (by kernel_rfl) ⟨d0, fun _ => trivial, fun _ => trivial⟩ (fun hS => ?_)
      refine wpG_take0 (i := 0) (v := ?v8) rfl (by kernel_rfl) (by kernel_rfl) (by kernel_rfl) (by decide) (by decide) (fun _ _ _ h => h) hS (Or.inl ⟨by rfl, ?hy8⟩) ?rest8
      case hy8 => (intro w' hw; have u0 := (Y0.out.below hw Y0.out.lt).cell; have u1 := (Y1.out.below hw Y1.out.lt).cell; have u2 := (Y2.out.below hw Y2.out.lt).cell; go_simp; try with_reducible rfl)
      replace hS := SG.set (i := 0) (by decide) (by decide) hS
      try simp only [Act.put, List.setIfInBounds_toArray, List.set_cons_zero, List.set_cons_succ]
      refine wpG_take0 (i := 1) (v := ?v9) rfl (by kernel_rfl) (by kernel_rfl) (by kernel_rfl) (by decide) (by decide) (fun _ _ _ h => h) hS (Or.inl ⟨by rfl, ?hy9⟩) ?rest9
      case hy9 => (intro w' hw; have u0 := (Y0.out.below hw Y0.out.lt).cell; have u1 := (Y1.out.below hw Y1.out.lt).cell; have u2 := (Y2.out.below hw Y2.out.lt).cell; go_simp; try with_reducible rfl)
      replace hS := SG.set (i := 1) (by decide) (by decide) hS
      try simp only [Act.put, List.setIfInBounds_toArray, List.set_cons_zero, List.set_cons_succ]
      refine wpG_take0 (i := 4) (v := ?v10) rfl (by kernel_rfl) (by kernel_rfl) (by kernel_rfl) (by decide) (by decide) (fun _ _ _ h => h) hS (Or.inl ⟨by rfl, ?hy10⟩) ?rest10
      case hy10 => (intro w' hw; have u0 := (Y0.out.below hw Y0.out.lt).cell; have u1 := (Y1.out.below hw Y1.out.lt).cell; have u2 := (Y2.out.below hw Y2.out.lt).cell; go_simp; try with_reducible rfl)
      replace hS := SG.set (i := 4) (by decide) (by decide) hS
      try simp only [Act.put, List.setIfInBounds_toArray, List.set_cons_zero, List.set_cons_succ]
      refine wpG_take0 (i := 5) (v := ?v11) rfl (by kernel_rfl) (by kernel_rfl) (by kernel_rfl) (by decide) (by decide) (fun _ _ _ h => h) hS (Or.inl ⟨by rfl, ?hy11⟩) ?rest11
      case hy11 => (intro w' hw; have u0 := (Y0.out.below hw Y0.out.lt).cell; have u1 := (Y1.out.below hw Y1.out.lt).cell; have u2 := (Y2.out.below hw Y2.out.lt).cell; go_simp; try with_reducible rfl)
      replace hS := SG.set (i := 5) (by decide) (by decide) hS
      try simp only [Act.put, List.setIfInBounds_toArray, List.set_cons_zero, List.set_cons_succ]
      obtain ⟨z0, hz0⟩ : ∃ z0, z0 = wc.drew := ⟨_, rfl⟩
      rw [← hz0] at I0 ⊢
      clear hz0 d0 hS
      refine wpG_frame fun A0 hA0 => ?_
      replace hA0 := Lib.hid hA0
      refine wpG_inv (Inv := (J9 wc (.mk k0 m0 q0) (.mk k2 m2 q2) (.mk k1 m1 q1) (.mk k2 m2 q2) (fun s8 s9 s2 s3 s6 s7 => (((((A0.setIfInBounds 8 s8).setIfInBounds 9 s9).setIfInBounds 72 s2).setIfInBounds 73 s3).setIfInBounds 76 s6).setIfInBounds 77 s7))) (E := #[true, true, true, true, true, true, true, true, true, true, false, false]) (n := 2) ?hne ?hstep (by rfl) ?hend _ _ _ _ ?hst (by first | decide | kernel_rfl)
      case hst =>
        refine ⟨false, false, false, false, false, false, by first | rfl | kernel_rfl, (fun h => by cases h), (fun h => by cases h), A0.getD 8 (.bool false), A0.getD 9 (.bool false), A0.getD 72 (.bool false), A0.getD 73 (.bool false), A0.getD 76 (.bool false), A0.getD 77 (.bool false), 0, 0, ?_, I0.out, (fun h => by cases h), (fun h => by cases h)⟩
        simp only [setD]
      case hne =>
        rintro l a w ⟨b2, b3, b6, b7, b8, b9, rfl, _⟩ _
        cases b2 <;> cases b3 <;> cases b6 <;> cases b7 <;> cases b8 <;> cases b9 <;> exact ne_of_isEmpty (by kernel_rfl)
      case hstep =>
        rintro l a w ⟨b2, b3, b6, b7, b8, b9, rfl, i3, i7, s8, s9, s2, s3, s6, s7, h8, h9, rfl, I, e8, e9⟩ he i hi
        have hR : R9 b2 b3 b6 b7 b8 b9 i = true := by
          clear I e8 e9
          cases b2 <;> cases b3 <;> cases b6 <;> cases b7 <;> cases b8 <;> cases b9 <;> first | exact absurd (i3 rfl) (by decide) | exact absurd (i7 rfl).1 (by decide) | exact absurd (i7 rfl).2 (by decide) | exact absurd rfl he | exact all_of hi (by kernel_rfl)
        clear he hi
        have hR2 := of_decide_eq_true hR
        clear hR
        rcases hR2 with ⟨rfl, rfl⟩ | ⟨rfl, rfl, rfl⟩ | ⟨rfl, rfl⟩ | ⟨rfl, rfl, rfl, rfl⟩ | ⟨rfl, rfl⟩ | ⟨rfl, rfl⟩
        · have I2 : Hid (I9 wc (w.alloc (.cells #[Value.int .i64 k2, .slice N2 m2.length n2, .slice V2 q2.length v2] 25)) (.mk k0 m0 q0) (.mk k2 m2 q2) (.mk k1 m1 q1) (.mk k2 m2 q2) (some (.slice (some ⟨w.heap.size, 0, none⟩) 1 1)) (cond b3 (some s3) none) (cond b6 (some s6) none) (cond b7 (some s7) none) (cond b8 (some h8) none) (cond b9 (some h9) none)) := I.bs2 T2.out
          clear I
          refine op_step rfl rfl (fun K hK => ?_)
          have hA := hA0.out
          subst hA
          clear hA0 I0
          simp only [List.setIfInBounds_toArray, List.set_cons_zero, List.set_cons_succ]
          go_simp
          refine hK.out _ _ ⟨⟨I2.out.low, fun _ => trivial, fun _ => trivial⟩, true, b3, b6, b7, b8, b9, by first | rfl | kernel_rfl, fun _ => rfl, fun h => i7 (by first | exact h | trivial), s8, s9, (.slice (some ⟨w.heap.size, 0, none⟩) 1 1), s3, s6, s7, h8, h9, ?_, I2.out, fun h => e8 (by first | exact h | trivial), fun h => e9 (by first | exact h | trivial)⟩
          try simp only [List.setIfInBounds_toArray, List.set_cons_zero, List.set_cons_succ]
          try rfl
        · refine op_step rfl rfl (fun K hK => ?_)
          have hA := hA0.out
          subst hA
          clear hA0 I0
          simp only [List.setIfInBounds_toArray, List.set_cons_zero, List.set_cons_succ]
          go_simp
          refine (I9.call3 I T0.out).mono ?_
          rintro e x ⟨y, rfl, hk⟩
          have I2 : Hid (I9 wc (x) (.mk k0 m0 q0) (.mk k2 m2 q2) (.mk k1 m1 q1) (.mk k2 m2 q2) (some s2) (some y) (cond b6 (some s6) none) (cond b7 (some s7) none) (cond b8 (some h8) none) (cond b9 (some h9) none)) := hk
          clear hk I
          go_wp2_with fail
          refine hK.out _ _ ⟨⟨I2.out.low, fun _ => trivial, fun _ => trivial⟩, true, true, b6, b7, b8, b9, by first | rfl | kernel_rfl, fun _ => rfl, fun h => ⟨rfl, (i7 (by first | exact h | trivial)).2⟩, s8, s9, s2, y, s6, s7, h8, h9, ?_, I2.out, fun h => e8 (by first | exact h | trivial), fun h => e9 (by first | exact h | trivial)⟩
          try simp only [List.setIfInBounds_toArray, List.set_cons_zero, List.set_cons_succ]
          try rfl
        · have I2 : Hid (I9 wc (w.alloc (.cells #[Value.int .i64 k2, .slice N2 m2.length n2, .slice V2 q2.length v2] 25)) (.mk k0 m0 q0) (.mk k2 m2 q2) (.mk k1 m1 q1) (.mk k2 m2 q2) (cond b2 (some s2) none) (cond b3 (some s3) none) (some (.slice (some ⟨w.heap.size, 0, none⟩) 1 1)) (cond b7 (some s7) none) (cond b8 (some h8) none) (cond b9 (some h9) none)) := I.bs6 T2.out
          clear I
          refine op_step rfl rfl (fun K hK => ?_)
          have hA := hA0.out
          subst hA
          clear hA0 I0
          simp only [List.setIfInBounds_toArray, List.set_cons_zero, List.set_cons_succ]
          go_simp
          refine hK.out _ _ ⟨⟨I2.out.low, fun _ => trivial, fun _ => trivial⟩, b2, b3, true, b7, b8, b9, by first | rfl | kernel_rfl, fun h => i3 (by first | exact h | trivial), fun h => ⟨(i7 (by first | exact h | trivial)).1, rfl⟩, s8, s9, s2, s3, (.slice (some ⟨w.heap.size, 0, none⟩) 1 1), s7, h8, h9, ?_, I2.out, fun h => e8 (by first | exact h | trivial), fun h => e9 (by first | exact h | trivial)⟩
          try simp only [List.setIfInBounds_toArray, List.set_cons_zero, List.set_cons_succ]
          try rfl
        · refine op_step rfl rfl (fun K hK => ?_)
          have hA := hA0.out
          subst hA
          clear hA0 I0
          simp only [List.setIfInBounds_toArray, List.set_cons_zero, List.set_cons_succ]
          go_simp
          refine (I9.call7 I T1.out).mono ?_
          rintro e x ⟨y, rfl, hk⟩
          have I2 : Hid (I9 wc (x) (.mk k0 m0 q0) (.mk k2 m2 q2) (.mk k1 m1 q1) (.mk k2 m2 q2) (cond b2 (some s2) none) (some s3) (some s6) (some y) (cond b8 (some h8) none) (cond b9 (some h9) none)) := hk
          clear hk I
          go_wp2_with fail
          refine hK.out _ _ ⟨⟨I2.out.low, fun _ => trivial, fun _ => trivial⟩, b2, true, true, true, b8, b9, by first | rfl | kernel_rfl, fun h => i3 (by first | exact h | trivial), fun _ => ⟨rfl, rfl⟩, s8, s9, s2, s3, s6, y, h8, h9, ?_, I2.out, fun h => e8 (by first | exact h | trivial), fun h => e9 (by first | exact h | trivial)⟩
          try simp only [List.setIfInBounds_toArray, List.set_cons_zero, List.set_cons_succ]
          try rfl
        · have I2 : Hid (I9 wc (w.alloc (.cells #[Value.int .i64 0, .slice none 0 0, .slice none 0 0] 25)) (.mk k0 m0 q0) (.mk k2 m2 q2) (.mk k1 m1 q1) (.mk k2 m2 q2) (cond b2 (some s2) none) (cond b3 (some s3) none) (cond b6 (some s6) none) (cond b7 (some s7) none) (some w.heap.size) (cond b9 (some h9) none)) := I.al8
          clear I
          refine op_step rfl rfl (fun K hK => ?_)
          have hA := hA0.out
          subst hA
          clear hA0 I0
          simp only [List.setIfInBounds_toArray, List.set_cons_zero, List.set_cons_succ]
          go_simp
          refine hK.out _ _ ⟨⟨I2.out.low, fun _ => trivial, fun _ => trivial⟩, b2, b3, b6, b7, true, b9, by first | rfl | kernel_rfl, fun h => i3 (by first | exact h | trivial), fun h => i7 (by first | exact h | trivial), (.pointer (some ⟨w.heap.size, 0, none⟩)), s9, s2, s3, s6, s7, w.heap.size, h9, ?_, I2.out, fun _ => rfl, fun h => e9 (by first | exact h | trivial)⟩
          try simp only [List.setIfInBounds_toArray, List.set_cons_zero, List.set_cons_succ]
          try rfl
        · have I2 : Hid (I9 wc (w.alloc (.cells #[Value.int .i64 0, .slice none 0 0, .slice none 0 0] 25)) (.mk k0 m0 q0) (.mk k2 m2 q2) (.mk k1 m1 q1) (.mk k2 m2 q2) (cond b2 (some s2) none) (cond b3 (some s3) none) (cond b6 (some s6) none) (cond b7 (some s7) none) (cond b8 (some h8) none) (some w.heap.size)) := I.al9
          clear I
          refine op_step rfl rfl (fun K hK => ?_)
          have hA := hA0.out
          subst hA
          clear hA0 I0
          simp only [List.setIfInBounds_toArray, List.set_cons_zero, List.set_cons_succ]
          go_simp
          refine hK.out _ _ ⟨⟨I2.out.low, fun _ => trivial, fun _ => trivial⟩, b2, b3, b6, b7, b8, true, by first | rfl | kernel_rfl, fun h => i3 (by first | exact h | trivial), fun h => i7 (by first | exact h | trivial), s8, (.pointer (some ⟨w.heap.size, 0, none⟩)), s2, s3, s6, s7, h8, w.heap.size, ?_, I2.out, fun h => e8 (by first | exact h | trivial), fun _ => rfl⟩
          try simp only [List.setIfInBounds_toArray, List.set_cons_zero, List.set_cons_succ]
          try rfl
      case hend =>
        rintro a w ⟨b2, b3, b6, b7, b8, b9, hl, i3, i7, s8, s9, s2, s3, s6, s7, h8, h9, rfl, I, e8, e9⟩ f
        have hb : b2 = true ∧ b3 = true ∧ b6 = true ∧ b7 = true ∧ b8 = true ∧ b9 = true := by simpa using hl
        obtain ⟨rfl, rfl, rfl, rfl, rfl, rfl⟩ := hb
        obtain rfl := e8 rfl
        obtain rfl := e9 rfl
        clear hl i3 i7 e8 e9
        obtain ⟨An, cn, A, c, Bn, dn, B, d, rfl, rfl, l8, l9, r8, r9, b8, b9, hm8, hm9⟩ := I9.fin I
        simp only [put3] at r9 b8 b9
        have hA := hA0.out
        subst hA
        clear hA0 I0
        simp only [List.setIfInBounds_toArray, List.set_cons_zero, List.set_cons_succ]
        refine wpG_ready (rs := [10]) (by kernel_rfl) (by simp) ?_
        refine RG.consG rfl rfl (fun K hK => ?_) RG.nil
        have zr := r8.cell
        have zt := r8.thaw
        go_simp
        refine hK.out _ _ ⟨b8, fun _ => trivial, fun _ => trivial⟩ (fun hS => ?_)
        clear hK K hS zr zt r8
        try simp only [List.setIfInBounds_toArray, List.set_cons_zero, List.set_cons_succ]
        refine wpG_ready (rs := [11]) (by kernel_rfl) (by simp) ?_
        refine RG.consG rfl rfl (fun K hK => ?_) RG.nil
        have zr := r9.cell
        have zt := r9.thaw
        go_simp
        refine hK.out _ _ ⟨b9, fun _ => trivial, fun _ => trivial⟩ (fun hS => ?_)
        clear hK K hS zr zt r9 I
        try simp only [List.setIfInBounds_toArray, List.set_cons_zero, List.set_cons_succ]
        refine wpG_done (by kernel_rfl) ?_ _
        go_wp2_with fail
        go_meet
        exact ⟨hm8.weak HV3.out.size, hm9.weak HV3.out.size, HV3.out.trans (b9.mono HV3.out.size)⟩
    case rest =>
    obtain ⟨HM8, HM9, HV4⟩ := hcut
    clear Y0 Y1 Y2 T0 T1 T2 HV3
    have Y0 := Lib.hid (X0.out.below HV4.out X0.out.lt)
    have Y1 := Lib.hid (X1.out.below HV4.out X1.out.lt)
    have Y2 := Lib.hid (X2.out.below HV4.out X2.out.lt)
    have T0 := Lib.hid (J0.out.below HV4.out)
    have T1 := Lib.hid (J1.out.below HV4.out)
    have T2 := Lib.hid (J2.out.below HV4.out)
    go_upto_region 10 with fail
    go_cut [10, 11] from 78 to 86 (fun s10 s11 wx => Hid (MR w1 wx s10 (fnOf [.mk k0 m0 q0] (.mk k2 m2 q2))) ∧ Hid (MR w1 wx s11 (fnOf [.mk k1 m1 q1] (.mk k2 m2 q2))) ∧ Hid (Below wc.heap.size wc wx))
    case first =>
      clear KH KG KA HB1
      have d0 : Below wc.heap.size wc wc.drew := Below.drew (Below.refl _ _)
      have I0 := Lib.hid (I9.start wc wc.drew (.mk k2 m2 q2) (.mk k0 m0 q0) (.mk k2 m2 q2) (.mk k1 m1 q1) d0)
      refine wp_region_G (S := SG (fun w' => Below wc.heap.size wc w') 99 (fun _ => True) 99 (fun _ => True)) (by kernel_rfl) ⟨d0, fun _ => trivial, fun _ => trivial⟩ (fun hS => ?_)
      refine wpG_take0 (i := 0) (v := ?v12) rfl (by kernel_rfl) (by kernel_rfl) (by kernel_rfl) (by decide) (by decide) (fun _ _ _ h => h) hS (Or.inl ⟨by rfl, ?hy12⟩) ?rest12
      case hy12 => (intro w' hw; have u0 := (Y0.out.below hw Y0.out.lt).cell; have u1 := (Y1.out.below hw Y1.out.lt).cell; have u2 := (Y2.out.below hw Y2.out.lt).cell; go_simp; try with_reducible rfl)
      replace hS := SG.set (i := 0) (by decide) (by decide) hS
      try simp only [Act.put, List.setIfInBounds_toArray, List.set_cons_zero, List.set_cons_succ]
      refine wpG_take0 (i := 1) (v := ?v13) rfl (by kernel_rfl) (by kernel_rfl) (by kernel_rfl) (by decide) (by decide) (fun _ _ _ h => h) hS (Or.inl ⟨by rfl, ?hy13⟩) ?rest13
      case hy13 => (intro w' hw; have u0 := (Y0.out.below hw Y0.out.lt).cell; have u1 := (Y1.out.below hw Y1.out.lt).cell; have u2 := (Y2.out.below hw Y2.out.lt).cell; go_simp; try with_reducible rfl)
      replace hS := SG.set (i := 1) (by decide) (by decide) hS
      try simp only [Act.put, List.setIfInBounds_toArray, List.set_cons_zero, List.set_cons_succ]
      refine wpG_take0 (i := 4) (v := ?v14) rfl (by kernel_rfl) (by kernel_rfl) (by kernel_rfl) (by decide) (by decide) (fun _ _ _ h => h) hS (Or.inl ⟨by rfl, ?hy14⟩) ?rest14
      case hy14 => (intro w' hw; have u0 := (Y0.out.below hw Y0.out.lt).cell; have u1 := (Y1.out.below hw Y1.out.lt).cell; have u2 := (Y2.out.below hw Y2.out.lt).cell; go_simp; try with_reducible rfl)
      replace hS := SG.set (i := 4) (by decide) (by decide) hS
      try simp only [Act.put, List.setIfInBounds_toArray, List.set_cons_zero, List.set_cons_succ]
      refine wpG_take0 (i := 5) (v := ?v15) rfl (by kernel_rfl) (by kernel_rfl) (by kernel_rfl) (by decide) (by decide) (fun _ _ _ h => h) hS (Or.inl ⟨by rfl, ?hy15⟩) ?rest15
      case hy15 => (intro w' hw; have u0 := (Y0.out.below hw Y0.out.lt).cell; have u1 := (Y1.out.below hw Y1.out.lt).cell; have u2 := (Y2.out.below hw Y2.out.lt).cell; go_simp; try with_reducible rfl)
      replace hS := SG.set (i := 5) (by decide) (by decide) hS
      try simp only [Act.put, List.setIfInBounds_toArray, List.set_cons_zero, List.set_cons_succ]
      obtain ⟨z0, hz0⟩ : ∃ z0, z0 = wc.drew := ⟨_, rfl⟩
      rw [← hz0] at I0 ⊢
      clear hz0 d0 hS
      refine wpG_frame fun A0 hA0 => ?_
      replace hA0 := Lib.hid hA0
      refine wpG_inv (Inv := (J9 wc (.mk k2 m2 q2) (.mk k0 m0 q0) (.mk k2 m2 q2) (.mk k1 m1 q1) (fun s8 s9 s2 s3 s6 s7 => (((((A0.setIfInBounds 10 s8).setIfInBounds 11 s9).setIfInBounds 80 s2).setIfInBounds 81 s3).setIfInBounds 84 s6).setIfInBounds 85 s7))) (E := #[true, true, true, true, true, true, true, true, true, true, false, false]) (n := 2) ?hne ?hstep (by rfl) ?hend _ _ _ _ ?hst (by first | decide | kernel_rfl)
      case hst =>
        refine ⟨false, false, false, false, false, false, by first | rfl | kernel_rfl, (fun h => by cases h), (fun h => by cases h), A0.getD 10 (.bool false), A0.getD 11 (.bool false), A0.getD 80 (.bool false), A0.getD 81 (.bool false), A0.getD 84 (.bool false), A0.getD 85 (.bool false), 0, 0, ?_, I0.out, (fun h => by cases h), (fun h => by cases h)⟩
        simp only [setD]
      case hne =>
        rintro l a w ⟨b2, b3, b6, b7, b8, b9, rfl, _⟩ _
        cases b2 <;> cases b3 <;> cases b6 <;> cases b7 <;> cases b8 <;> cases b9 <;> exact ne_of_isEmpty (by kernel_rfl)
      case hstep =>
        rintro l a w ⟨b2, b3, b6, b7, b8, b9, rfl, i3, i7, s8, s9, s2, s3, s6, s7, h8, h9, rfl, I, e8, e9⟩ he i hi
        have hR : R9 b2 b3 b6 b7 b8 b9 i = true := by
          clear I e8 e9
          cases b2 <;> cases b3 <;> cases b6 <;> cases b7 <;> cases b8 <;> cases b9 <;> first | exact absurd (i3 rfl) (by decide) | exact absurd (i7 rfl).1 (by decide) | exact absurd (i7 rfl).2 (by decide) | exact absurd rfl he | exact all_of hi (by kernel_rfl)
        clear he hi
        have hR2 := of_decide_eq_true hR
        clear hR
        rcases hR2 with ⟨rfl, rfl⟩ | ⟨rfl, rfl, rfl⟩ | ⟨rfl, rfl⟩ | ⟨rfl, rfl, rfl, rfl⟩ | ⟨rfl, rfl⟩ | ⟨rfl, rfl⟩
        · have I2 : Hid (I9 wc (w.alloc (.cells #[Value.int .i64 k0, .slice N0 m0.length n0, .slice V0 q0.length v0] 25)) (.mk k2 m2 q2) (.mk k0 m0 q0) (.mk k2 m2 q2) (.mk k1 m1 q1) (some (.slice (some ⟨w.heap.size, 0, none⟩) 1 1)) (cond b3 (some s3) none) (cond b6 (some s6) none) (cond b7 (some s7) none) (cond b8 (some h8) none) (cond b9 (some h9) none)) := I.bs2 T0.out
          clear I
          refine op_step rfl rfl (fun K hK => ?_)
          have hA := hA0.out
          subst hA
          clear hA0 I0
          simp only [List.setIfInBounds_toArray, List.set_cons_zero, List.set_cons_succ]
          go_simp
          refine hK.out _ _ ⟨⟨I2.out.low, fun _ => trivial, fun _ => trivial⟩, true, b3, b6, b7, b8, b9, by first | rfl | kernel_rfl, fun _ => rfl, fun h => i7 (by first | exact h | trivial), s8, s9, (.slice (some ⟨w.heap.size, 0, none⟩) 1 1), s3, s6, s7, h8, h9, ?_, I2.out, fun h => e8 (by first | exact h | trivial), fun h => e9 (by first | exact h | trivial)⟩
          try simp only [List.setIfInBounds_toArray, List.set_cons_zero, List.set_cons_succ]
          try rfl
        · refine op_step rfl rfl (fun K hK => ?_)
          have hA := hA0.out
          subst hA
          clear hA0 I0
          simp only [List.setIfInBounds_toArray, List.set_cons_zero, List.set_cons_succ]
          go_simp
          refine (I9.call3 I T2.out).mono ?_
          rintro e x ⟨y, rfl, hk⟩
          have I2 : Hid (I9 wc (x) (.mk k2 m2 q2) (.mk k0 m0 q0) (.mk k2 m2 q2) (.mk k1 m1 q1) (some s2) (some y) (cond b6 (some s6) none) (cond b7 (some s7) none) (cond b8 (some h8) none) (cond b9 (some h9) none)) := hk
          clear hk I
          go_wp2_with fail
          refine hK.out _ _ ⟨⟨I2.out.low, fun _ => trivial, fun _ => trivial⟩, true, true, b6, b7, b8, b9, by first | rfl | kernel_rfl, fun _ => rfl, fun h => ⟨rfl, (i7 (by first | exact h | trivial)).2⟩, s8, s9, s2, y, s6, s7, h8, h9, ?_, I2.out, fun h => e8 (by first | exact h | trivial), fun h => e9 (by first | exact h | trivial)⟩
          try simp only [List.setIfInBounds_toArray, List.set_cons_zero, List.set_cons_succ]
          try rfl
        · have I2 : Hid (I9 wc (w.alloc (.cells #[Value.int .i64 k1, .slice N1 m1.length n1, .slice V1 q1.length v1] 25)) (.mk k2 m2 q2) (.mk k0 m0 q0) (.mk k2 m2 q2) (.mk k1 m1 q1) (cond b2 (some s2) none) (cond b3 (some s3) none) (some (.slice (some ⟨w.heap.size, 0, none⟩) 1 1)) (cond b7 (some s7) none) (cond b8 (some h8) none) (cond b9 (some h9) none)) := I.bs6 T1.out
          clear I
          refine op_step rfl rfl (fun K hK => ?_)
          have hA := hA0.out
          subst hA
          clear hA0 I0
          simp only [List.setIfInBounds_toArray, List.set_cons_zero, List.set_cons_succ]
          go_simp
          refine hK.out _ _ ⟨⟨I2.out.low, fun _ => trivial, fun _ => trivial⟩, b2, b3, true, b7, b8, b9, by first | rfl | kernel_rfl, fun h => i3 (by first | exact h | trivial), fun h => ⟨(i7 (by first | exact h | trivial)).1, rfl⟩, s8, s9, s2, s3, (.slice (some ⟨w.heap.size, 0, none⟩) 1 1), s7, h8, h9, ?_, I2.out, fun h => e8 (by first | exact h | trivial), fun h => e9 (by first | exact h | trivial)⟩
          try simp only [List.setIfInBounds_toArray, List.set_cons_zero, List.set_cons_succ]
          try rfl
        · refine op_step rfl rfl (fun K hK => ?_)
          have hA := hA0.out
          subst hA
          clear hA0 I0
          simp only [List.setIfInBounds_toArray, List.set_cons_zero, List.set_cons_succ]
          go_simp
          refine (I9.call7 I T2.out).mono ?_
          rintro e x ⟨y, rfl, hk⟩
          have I2 : Hid (I9 wc (x) (.mk k2 m2 q2) (.mk k0 m0 q0) (.mk k2 m2 q2) (.mk k1 m1 q1) (cond b2 (some s2) none) (some s3) (some s6) (some y) (cond b8 (some h8) none) (cond b9 (some h9) none)) := hk
          clear hk I
          go_wp2_with fail
          refine hK.out _ _ ⟨⟨I2.out.low, fun _ => trivial, fun _ => trivial⟩, b2, true, true, true, b8, b9, by first | rfl | kernel_rfl, fun h => i3 (by first | exact h | trivial), fun _ => ⟨rfl, rfl⟩, s8, s9, s2, s3, s6, y, h8, h9, ?_, I2.out, fun h => e8 (by first | exact h | trivial), fun h => e9 (by first | exact h | trivial)⟩
          try simp only [List.setIfInBounds_toArray, List.set_cons_zero, List.set_cons_succ]
          try rfl
        · have I2 : Hid (I9 wc (w.alloc (.cells #[Value.int .i64 0, .slice none 0 0, .slice none 0 0] 25)) (.mk k2 m2 q2) (.mk k0 m0 q0) (.mk k2 m2 q2) (.mk k1 m1 q1) (cond b2 (some s2) none) (cond b3 (some s3) none) (cond b6 (some s6) none) (cond b7 (some s7) none) (some w.heap.size) (cond b9 (some h9) none)) := I.al8
          clear I
          refine op_step rfl rfl (fun K hK => ?_)
          have hA := hA0.out
          subst hA
          clear hA0 I0
          simp only [List.setIfInBounds_toArray, List.set_cons_zero, List.set_cons_succ]
          go_simp
          refine hK.out _ _ ⟨⟨I2.out.low, fun _ => trivial, fun _ => trivial⟩, b2, b3, b6, b7, true, b9, by first | rfl | kernel_rfl, fun h => i3 (by first | exact h | trivial), fun h => i7 (by first | exact h | trivial), (.pointer (some ⟨w.heap.size, 0, none⟩)), s9, s2, s3, s6, s7, w.heap.size, h9, ?_, I2.out, fun _ => rfl, fun h => e9 (by first | exact h | trivial)⟩
          try simp only [List.setIfInBounds_toArray, List.set_cons_zero, List.set_cons_succ]
          try rfl
        · have I2 : Hid (I9 wc (w.alloc (.cells #[Value.int .i64 0, .slice none 0 0, .slice none 0 0] 25)) (.mk k2 m2 q2) (.mk k0 m0 q0) (.mk k2 m2 q2) (.mk k1 m1 q1) (cond b2 (some s2) none) (cond b3 (some s3) none) (cond b6 (some s6) none) (cond b7 (some s7) none) (cond b8 (some h8) none) (some w.heap.size)) := I.al9
          clear I
          refine op_step rfl rfl (fun K hK => ?_)
          have hA := hA0.out
          subst hA
          clear hA0 I0
          simp only [List.setIfInBounds_toArray, List.set_cons_zero, List.set_cons_succ]
          go_simp
          refine hK.out _ _ ⟨⟨I2.out.low, fun _ => trivial, fun _ => trivial⟩, b2, b3, b6, b7, b8, true, by first | rfl | kernel_rfl, fun h => i3 (by first | exact h | trivial), fun h => i7 (by first | exact h | trivial), s8, (.pointer (some ⟨w.heap.size, 0, none⟩)), s2, s3, s6, s7, h8, w.heap.size, ?_, I2.out, fun h => e8 (by first | exact h | trivial), fun _ => rfl⟩
          try simp only [List.setIfInBounds_toArray, List.set_cons_zero, List.set_cons_succ]
          try rfl
      case hend =>
        rintro a w ⟨b2, b3, b6, b7, b8, b9, hl, i3, i7, s8, s9, s2, s3, s6, s7, h8, h9, rfl, I, e8, e9⟩ f
        have hb : b2 = true ∧ b3 = true ∧ b6 = true ∧ b7 = true ∧ b8 = true ∧ b9 = true := by simpa using hl
        obtain ⟨rfl, rfl, rfl, rfl, rfl, rfl⟩ := hb
        obtain rfl := e8 rfl
        obtain rfl := e9 rfl
        clear hl i3 i7 e8 e9
        obtain ⟨An, cn, A, c, Bn, dn, B, d, rfl, rfl, l8, l9, r8, r9, b8, b9, hm8, hm9⟩ := I9.fin I
        simp only [put3] at r9 b8 b9
        have hA := hA0.out
        subst hA
        clear hA0 I0
        simp only [List.setIfInBounds_toArray, List.set_cons_zero, List.set_cons_succ]
        refine wpG_ready (rs := [10]) (by kernel_rfl) (by simp) ?_
        refine RG.consG rfl rfl (fun K hK => ?_) RG.nil
        have zr := r8.cell
        have zt := r8.thaw
        go_simp
        refine hK.out _ _ ⟨b8, fun _ => trivial, fun _ => trivial⟩ (fun hS => ?_)
        clear hK K hS zr zt r8
        try simp only [List.setIfInBounds_toArray, List.set_cons_zero, List.set_cons_succ]
        refine wpG_ready (rs := [11]) (by kernel_rfl) (by simp) ?_
        refine RG.consG rfl rfl (fun K hK => ?_) RG.nil
        have zr := r9.cell
        have zt := r9.thaw
        go_simp
        refine hK.out _ _ ⟨b9, fun _ => trivial, fun _ => trivial⟩ (fun hS => ?_)
        clear hK K hS zr zt r9 I
        try simp only [List.setIfInBounds_toArray, List.set_cons_zero, List.set_cons_succ]
        refine wpG_done (by kernel_rfl) ?_ _
        go_wp2_with fail
        go_meet
        exact ⟨hm8.weak HV4.out.size, hm9.weak HV4.out.size, b9⟩
    case rest =>
    obtain ⟨HM10, HM11, hb⟩ := hcut
    have HV5 := Lib.hid (HV4.out.trans (hb.mono HV4.out.size))
    obtain ⟨H8, An8, cn8, A8, c8, rfl, hl8, r8, t8⟩ := MR.below HM8.out hb
    obtain ⟨H9, An9, cn9, A9, c9, rfl, hl9, r9, t9⟩ := MR.below HM9.out hb
    obtain ⟨H10, An10, cn10, A10, c10, rfl, hl10, r10, t10⟩ := HM10.out
    obtain ⟨H11, An11, cn11, A11, c11, rfl, hl11, r11, t11⟩ := HM11.out
    have Z8 : Hid (RowB wc H8 25 #[Value.int .i64 4, .slice An8 0 cn8, .slice A8 2 c8]) := r8
    have Z9 : Hid (RowB wc H9 25 #[Value.int .i64 4, .slice An9 0 cn9, .slice A9 2 c9]) := r9
    have Z10 : Hid (RowB wc H10 25 #[Value.int .i64 4, .slice An10 0 cn10, .slice A10 2 c10]) := r10
    have Z11 : Hid (RowB wc H11 25 #[Value.int .i64 4, .slice An11 0 cn11, .slice A11 2 c11]) := r11
    have CG : Hid (∀ w', Below wc.heap.size wc w' → Calls Tryz.prog 32 #[.agg #[Value.int .i64 4, .slice An8 0 cn8, .slice A8 2 c8], .agg #[Value.int .i64 4, .slice An9 0 cn9, .slice A9 2 c9]] w' fun e w2 => e = .returned (.bool fl) ∧ Below w'.heap.size w' w2) := fun w' h => KG.out w' _ _ _ _ _ _ _ _ _ _ (t8.below h) (t9.below h)
    have CH : Hid (∀ w', Below wc.heap.size wc w' → Calls Tryz.prog 32 #[.agg #[Value.int .i64 4, .slice An11 0 cn11, .slice A11 2 c11], .agg #[Value.int .i64 4, .slice An10 0 cn10, .slice A10 2 c10]] w' fun e w2 => e = .returned (.bool fl) ∧ Below w'.heap.size w' w2) := fun w' h => KH.out w' _ _ _ _ _ _ _ _ _ _ (t11.below h) (t10.below h)
    have CF : Hid (∀ w', Below wc.heap.size wc w' → Calls Tryz.prog 32 #[.agg #[Value.int .i64 k0, .slice N0 m0.length n0, .slice V0 q0.length v0], .agg #[Value.int .i64 k1, .slice N1 m1.length n1, .slice V1 q1.length v1]] w' fun e w2 => e = .returned (.bool fl) ∧ Below w'.heap.size w' w2) := fun w' h => KF.out w' (HV5.out.trans (h.mono HV5.out.size))
    have CA : Hid (∀ w', Below wc.heap.size wc w' → Calls Tryz.prog 31 #[] w' fun e w2 => e = .returned (.bool true) ∧ Below w'.heap.size w' w2) := fun w' h => KA.out w' (HV5.out.trans (h.mono HV5.out.size))
    clear Y0 Y1 Y2 T0 T1 T2 HM8 HM9 HM10 HM11 r8 r9 r10 r11 t8 t9 t10 t11 hl8 hl9 hl10 hl11 hb KG KH KF KA HV4
    have Y0 := Lib.hid (X0.out.below HV5.out X0.out.lt)
    have Y1 := Lib.hid (X1.out.below HV5.out X1.out.lt)
    clear X0 X1 X2 J0 J1 J2
    go_upto_region 11 with fail
    have d0 : Below wc.heap.size wc wc.drew := Below.drew (Below.refl _ _)
    cases fl with
    | true =>
      refine wp_region_G (S := SG (fun w' => Below wc.heap.size wc w') 99 (fun _ => True) 99 (fun _ => True)) (by kernel_rfl) ⟨d0, fun _ => trivial, fun _ => trivial⟩ (fun hS => ?_)
      refine wpG_ready (rs := [0]) (by kernel_rfl) (by simp) ?_
      refine RG.consG rfl rfl (fun K hK => ?_) RG.nil
      go_simp
      refine (CA.out _ d0).mono ?_
      rintro e x1 ⟨rfl, hx1⟩
      go_wp2_with fail
      have HG1 := Lib.hid (d0.trans (hx1.mono d0.size))
      clear hx1
      refine hK.out _ _ ⟨HG1.out, fun _ => trivial, fun _ => trivial⟩ (fun hS => ?_)
      clear hK K
      try simp only [Act.put, List.setIfInBounds_toArray, List.set_cons_zero, List.set_cons_succ]
      refine wpG_take0 (i := 1) (v := ?v16) rfl (by kernel_rfl) (by kernel_rfl) (by kernel_rfl) (by decide) (by decide) (fun _ _ _ h => h) hS (Or.inl ⟨by rfl, ?hy16⟩) ?rest16
      case hy16 => (intro w' hw; have u0 := (Y0.out.below hw Y0.out.lt).cell; have u1 := (Y1.out.below hw Y1.out.lt).cell; have u8 := (Z8.out.below hw Z8.out.lt).cell; have u9 := (Z9.out.below hw Z9.out.lt).cell; have u10 := (Z10.out.below hw Z10.out.lt).cell; have u11 := (Z11.out.below hw Z11.out.lt).cell; go_simp; try with_reducible rfl)
      replace hS := SG.set (i := 1) (by decide) (by decide) hS
      try simp only [Act.put, List.setIfInBounds_toArray, List.set_cons_zero, List.set_cons_succ]
      refine wpG_take0 (i := 2) (v := ?v17) rfl (by kernel_rfl) (by kernel_rfl) (by kernel_rfl) (by decide) (by decide) (fun _ _ _ h => h) hS (Or.inl ⟨by rfl, ?hy17⟩) ?rest17
      case hy17 => (intro w' hw; have u0 := (Y0.out.below hw Y0.out.lt).cell; have u1 := (Y1.out.below hw Y1.out.lt).cell; have u8 := (Z8.out.below hw Z8.out.lt).cell; have u9 := (Z9.out.below hw Z9.out.lt).cell; have u10 := (Z10.out.below hw Z10.out.lt).cell; have u11 := (Z11.out.below hw Z11.out.lt).cell; go_simp; try with_reducible rfl)
      replace hS := SG.set (i := 2) (by decide) (by decide) hS
      try simp only [Act.put, List.setIfInBounds_toArray, List.set_cons_zero, List.set_cons_succ]
      refine wpG_take0 (i := 3) (v := ?v18) rfl (by kernel_rfl) (by kernel_rfl) (by kernel_rfl) (by decide) (by decide) (fun _ _ _ h => h) hS (Or.inl ⟨by rfl, ?hy18⟩) ?rest18
      case hy18 => (intro w' hw; have u0 := (Y0.out.below hw Y0.out.lt).cell; have u1 := (Y1.out.below hw Y1.out.lt).cell; have u8 := (Z8.out.below hw Z8.out.lt).cell; have u9 := (Z9.out.below hw Z9.out.lt).cell; have u10 := (Z10.out.below hw Z10.out.lt).cell; have u11 := (Z11.out.below hw Z11.out.lt).cell; go_simp; try with_reducible rfl)
      replace hS := SG.set (i := 3) (by decide) (by decide) hS
      try simp only [Act.put, List.setIfInBounds_toArray, List.set_cons_zero, List.set_cons_succ]
      refine wpG_take0 (i := 5) (v := ?v19) rfl (by kernel_rfl) (by kernel_rfl) (by kernel_rfl) (by decide) (by decide) (fun _ _ _ h => h) hS (Or.inl ⟨by rfl, ?hy19⟩) ?rest19
      case hy19 => (intro w' hw; have u0 := (Y0.out.below hw Y0.out.lt).cell; have u1 := (Y1.out.below hw Y1.out.lt).cell; have u8 := (Z8.out.below hw Z8.out.lt).cell; have u9 := (Z9.out.below hw Z9.out.lt).cell; have u10 := (Z10.out.below hw Z10.out.lt).cell; have u11 := (Z11.out.below hw Z11.out.lt).cell; go_simp; try with_reducible rfl)
      replace hS := SG.set (i := 5) (by decide) (by decide) hS
      try simp only [Act.put, List.setIfInBounds_toArray, List.set_cons_zero, List.set_cons_succ]
      refine wpG_take0 (i := 6) (v := ?v20) rfl (by kernel_rfl) (by kernel_rfl) (by kernel_rfl) (by decide) (by decide) (fun _ _ _ h => h) hS (Or.inl ⟨by rfl, ?hy20⟩) ?rest20
      case hy20 => (intro w' hw; have u0 := (Y0.out.below hw Y0.out.lt).cell; have u1 := (Y1.out.below hw Y1.out.lt).cell; have u8 := (Z8.out.below hw Z8.out.lt).cell; have u9 := (Z9.out.below hw Z9.out.lt).cell; have u10 := (Z10.out.below hw Z10.out.lt).cell; have u11 := (Z11.out.below hw Z11.out.lt).cell; go_simp; try with_reducible rfl)
      replace hS := SG.set (i := 6) (by decide) (by decide) hS
      try simp only [Act.put, List.setIfInBounds_toArray, List.set_cons_zero, List.set_cons_succ]
      refine wpG_ready (rs := [4]) (by kernel_rfl) (by simp) ?_
      refine RG.consG rfl rfl (fun K hK => ?_) RG.nil
      go_simp
      refine (CG.out _ HG1.out).mono ?_
      rintro e x2 ⟨rfl, hx2⟩
      go_wp2_with fail
      have HG2 := Lib.hid (HG1.out.trans (hx2.mono HG1.out.size))
      clear hx2
      refine hK.out _ _ ⟨HG2.out, fun _ => trivial, fun _ => trivial⟩ (fun hS => ?_)
      clear hK K
      try simp only [Act.put, List.setIfInBounds_toArray, List.set_cons_zero, List.set_cons_succ]
      refine wpG_ready (rs := [7]) (by kernel_rfl) (by simp) ?_
      refine RG.consG rfl rfl (fun K hK => ?_) RG.nil
      go_simp
      refine (CF.out _ HG2.out).mono ?_
      rintro e x3 ⟨rfl, hx3⟩
      go_wp2_with fail
      have HG3 := Lib.hid (HG2.out.trans (hx3.mono HG2.out.size))
      clear hx3
      refine hK.out _ _ ⟨HG3.out, fun _ => trivial, fun _ => trivial⟩ (fun hS => ?_)
      clear hK K
      try simp only [Act.put, List.setIfInBounds_toArray, List.set_cons_zero, List.set_cons_succ]
      refine wpG_take0 (i := 8) (v := ?v21) rfl (by kernel_rfl) (by kernel_rfl) (by kernel_rfl) (by decide) (by decide) (fun _ _ _ h => h) hS (Or.inl ⟨by rfl, ?hy21⟩) ?rest21
      case hy21 => (intro w' hw; have u0 := (Y0.out.below hw Y0.out.lt).cell; have u1 := (Y1.out.below hw Y1.out.lt).cell; have u8 := (Z8.out.below hw Z8.out.lt).cell; have u9 := (Z9.out.below hw Z9.out.lt).cell; have u10 := (Z10.out.below hw Z10.out.lt).cell; have u11 := (Z11.out.below hw Z11.out.lt).cell; go_simp; try with_reducible rfl)
      replace hS := SG.set (i := 8) (by decide) (by decide) hS
      try simp only [Act.put, List.setIfInBounds_toArray, List.set_cons_zero, List.set_cons_succ]
      refine wpG_take0 (i := 9) (v := ?v22) rfl (by kernel_rfl) (by kernel_rfl) (by kernel_rfl) (by decide) (by decide) (fun _ _ _ h => h) hS (Or.inl ⟨by rfl, ?hy22⟩) ?rest22
      case hy22 => (intro w' hw; have u0 := (Y0.out.below hw Y0.out.lt).cell; have u1 := (Y1.out.below hw Y1.out.lt).cell; have u8 := (Z8.out.below hw Z8.out.lt).cell; have u9 := (Z9.out.below hw Z9.out.lt).cell; have u10 := (Z10.out.below hw Z10.out.lt).cell; have u11 := (Z11.out.below hw Z11.out.lt).cell; go_simp; try with_reducible rfl)
      replace hS := SG.set (i := 9) (by decide) (by decide) hS
      try simp only [Act.put, List.setIfInBounds_toArray, List.set_cons_zero, List.set_cons_succ]
      refine wpG_take0 (i := 10) (v := ?v23) rfl (by kernel_rfl) (by kernel_rfl) (by kernel_rfl) (by decide) (by decide) (fun _ _ _ h => h) hS (Or.inl ⟨by rfl, ?hy23⟩) ?rest23
      case hy23 => (intro w' hw; have u0 := (Y0.out.below hw Y0.out.lt).cell; have u1 := (Y1.out.below hw Y1.out.lt).cell; have u8 := (Z8.out.below hw Z8.out.lt).cell; have u9 := (Z9.out.below hw Z9.out.lt).cell; have u10 := (Z10.out.below hw Z10.out.lt).cell; have u11 := (Z11.out.below hw Z11.out.lt).cell; go_simp; try with_reducible rfl)
      replace hS := SG.set (i := 10) (by decide) (by decide) hS
      try simp only [Act.put, List.setIfInBounds_toArray, List.set_cons_zero, List.set_cons_succ]
      refine wpG_take0 (i := 11) (v := ?v24) rfl (by kernel_rfl) (by kernel_rfl) (by kernel_rfl) (by decide) (by decide) (fun _ _ _ h => h) hS (Or.inl ⟨by rfl, ?hy24⟩) ?rest24
      case hy24 => (intro w' hw; have u0 := (Y0.out.below hw Y0.out.lt).cell; have u1 := (Y1.out.below hw Y1.out.lt).cell; have u8 := (Z8.out.below hw Z8.out.lt).cell; have u9 := (Z9.out.below hw Z9.out.lt).cell; have u10 := (Z10.out.below hw Z10.out.lt).cell; have u11 := (Z11.out.below hw Z11.out.lt).cell; go_simp; try with_reducible rfl)
      replace hS := SG.set (i := 11) (by decide) (by decide) hS
      try simp only [Act.put, List.setIfInBounds_toArray, List.set_cons_zero, List.set_cons_succ]
      refine wpG_take0 (i := 12) (v := ?v25) rfl (by kernel_rfl) (by kernel_rfl) (by kernel_rfl) (by decide) (by decide) (fun _ _ _ h => h) hS (Or.inl ⟨by rfl, ?hy25⟩) ?rest25
      case hy25 => (intro w' hw; have u0 := (Y0.out.below hw Y0.out.lt).cell; have u1 := (Y1.out.below hw Y1.out.lt).cell; have u8 := (Z8.out.below hw Z8.out.lt).cell; have u9 := (Z9.out.below hw Z9.out.lt).cell; have u10 := (Z10.out.below hw Z10.out.lt).cell; have u11 := (Z11.out.below hw Z11.out.lt).cell; go_simp; try with_reducible rfl)
      replace hS := SG.set (i := 12) (by decide) (by decide) hS
      try simp only [Act.put, List.setIfInBounds_toArray, List.set_cons_zero, List.set_cons_succ]
      refine wpG_take0 (i := 14) (v := ?v26) rfl (by kernel_rfl) (by kernel_rfl) (by kernel_rfl) (by decide) (by decide) (fun _ _ _ h => h) hS (Or.inl ⟨by rfl, ?hy26⟩) ?rest26
      case hy26 => (intro w' hw; have u0 := (Y0.out.below hw Y0.out.lt).cell; have u1 := (Y1.out.below hw Y1.out.lt).cell; have u8 := (Z8.out.below hw Z8.out.lt).cell; have u9 := (Z9.out.below hw Z9.out.lt).cell; have u10 := (Z10.out.below hw Z10.out.lt).cell; have u11 := (Z11.out.below hw Z11.out.lt).cell; go_simp; try with_reducible rfl)
      replace hS := SG.set (i := 14) (by decide) (by decide) hS
      try simp only [Act.put, List.setIfInBounds_toArray, List.set_cons_zero, List.set_cons_succ]
      refine wpG_take0 (i := 15) (v := ?v27) rfl (by kernel_rfl) (by kernel_rfl) (by kernel_rfl) (by decide) (by decide) (fun _ _ _ h => h) hS (Or.inl ⟨by rfl, ?hy27⟩) ?rest27
      case hy27 => (intro w' hw; have u0 := (Y0.out.below hw Y0.out.lt).cell; have u1 := (Y1.out.below hw Y1.out.lt).cell; have u8 := (Z8.out.below hw Z8.out.lt).cell; have u9 := (Z9.out.below hw Z9.out.lt).cell; have u10 := (Z10.out.below hw Z10.out.lt).cell; have u11 := (Z11.out.below hw Z11.out.lt).cell; go_simp; try with_reducible rfl)
      replace hS := SG.set (i := 15) (by decide) (by decide) hS
      try simp only [Act.put, List.setIfInBounds_toArray, List.set_cons_zero, List.set_cons_succ]
      refine wpG_ready (rs := [13]) (by kernel_rfl) (by simp) ?_
      refine RG.consG rfl rfl (fun K hK => ?_) RG.nil
      go_simp
      refine (CH.out _ HG3.out).mono ?_
      rintro e x4 ⟨rfl, hx4⟩
      go_wp2_with fail
      have HG4 := Lib.hid (HG3.out.trans (hx4.mono HG3.out.size))
      clear hx4
      refine hK.out _ _ ⟨HG4.out, fun _ => trivial, fun _ => trivial⟩ (fun hS => ?_)
      clear hK K
      try simp only [Act.put, List.setIfInBounds_toArray, List.set_cons_zero, List.set_cons_succ]
      refine wpG_ready (rs := [16]) (by kernel_rfl) (by simp) ?_
      refine RG.consG rfl rfl (fun K hK => ?_) RG.nil
      go_simp
      refine (CF.out _ HG4.out).mono ?_
      rintro e x5 ⟨rfl, hx5⟩
      go_wp2_with fail
      have HG5 := Lib.hid (HG4.out.trans (hx5.mono HG4.out.size))
      clear hx5
      refine hK.out _ _ ⟨HG5.out, fun _ => trivial, fun _ => trivial⟩ (fun hS => ?_)
      clear hK K
      try simp only [Act.put, List.setIfInBounds_toArray, List.set_cons_zero, List.set_cons_succ]
      refine wpG_take0 (i := 17) (v := ?v28) rfl (by kernel_rfl) (by kernel_rfl) (by kernel_rfl) (by decide) (by decide) (fun _ _ _ h => h) hS (Or.inl ⟨by rfl, ?hy28⟩) ?rest28
      case hy28 => (intro w' hw; have u0 := (Y0.out.below hw Y0.out.lt).cell; have u1 := (Y1.out.below hw Y1.out.lt).cell; have u8 := (Z8.out.below hw Z8.out.lt).cell; have u9 := (Z9.out.below hw Z9.out.lt).cell; have u10 := (Z10.out.below hw Z10.out.lt).cell; have u11 := (Z11.out.below hw Z11.out.lt).cell; go_simp; try with_reducible rfl)
      replace hS := SG.set (i := 17) (by decide) (by decide) hS
      try simp only [Act.put, List.setIfInBounds_toArray, List.set_cons_zero, List.set_cons_succ]
      refine wpG_take0 (i := 18) (v := ?v29) rfl (by kernel_rfl) (by kernel_rfl) (by kernel_rfl) (by decide) (by decide) (fun _ _ _ h => h) hS (Or.inl ⟨by rfl, ?hy29⟩) ?rest29
      case hy29 => (intro w' hw; have u0 := (Y0.out.below hw Y0.out.lt).cell; have u1 := (Y1.out.below hw Y1.out.lt).cell; have u8 := (Z8.out.below hw Z8.out.lt).cell; have u9 := (Z9.out.below hw Z9.out.lt).cell; have u10 := (Z10.out.below hw Z10.out.lt).cell; have u11 := (Z11.out.below hw Z11.out.lt).cell; go_simp; try with_reducible rfl)
      replace hS := SG.set (i := 18) (by decide) (by decide) hS
      try simp only [Act.put, List.setIfInBounds_toArray, List.set_cons_zero, List.set_cons_succ]
      refine wpG_take0 (i := 19) (v := ?v30) rfl (by kernel_rfl) (by kernel_rfl) (by kernel_rfl) (by decide) (by decide) (fun _ _ _ h => h) hS (Or.inl ⟨by rfl, ?hy30⟩) ?rest30
      case hy30 => (intro w' hw; have u0 := (Y0.out.below hw Y0.out.lt).cell; have u1 := (Y1.out.below hw Y1.out.lt).cell; have u8 := (Z8.out.below hw Z8.out.lt).cell; have u9 := (Z9.out.below hw Z9.out.lt).cell; have u10 := (Z10.out.below hw Z10.out.lt).cell; have u11 := (Z11.out.below hw Z11.out.lt).cell; go_simp; try with_reducible rfl)
      replace hS := SG.set (i := 19) (by decide) (by decide) hS
      try simp only [Act.put, List.setIfInBounds_toArray, List.set_cons_zero, List.set_cons_succ]
      refine wpG_done (by kernel_rfl) ?_ _
      go_wp2_with fail
      (first | go_ret | go_ret2)
      exact ⟨rfl, HB1.out.trans ((HV5.out.trans (HG5.out.mono HV5.out.size)).mono HB1.out.size)⟩
    | false =>
      refine wp_region_G (S := SG (fun w' => Below wc.heap.size wc w') 99 (fun _ => True) 99 (fun _ => True)) (by kernel_rfl) ⟨d0, fun _ => trivial, fun _ => trivial⟩ (fun hS => ?_)
      refine wpG_ready (rs := [0]) (by kernel_rfl) (by simp) ?_
      refine RG.consG rfl rfl (fun K hK => ?_) RG.nil
      go_simp
      refine (CA.out _ d0).mono ?_
      rintro e x1 ⟨rfl, hx1⟩
      go_wp2_with fail
      have HG1 := Lib.hid (d0.trans (hx1.mono d0.size))
      clear hx1
      refine hK.out _ _ ⟨HG1.out, fun _ => trivial, fun _ => trivial⟩ (fun hS => ?_)
      clear hK K
      try simp only [Act.put, List.setIfInBounds_toArray, List.set_cons_zero, List.set_cons_succ]
      refine wpG_take0 (i := 1) (v := ?v31) rfl (by kernel_rfl) (by kernel_rfl) (by kernel_rfl) (by decide) (by decide) (fun _ _ _ h => h) hS (Or.inl ⟨by rfl, ?hy31⟩) ?rest31
      case hy31 => (intro w' hw; have u0 := (Y0.out.below hw Y0.out.lt).cell; have u1 := (Y1.out.below hw Y1.out.lt).cell; have u8 := (Z8.out.below hw Z8.out.lt).cell; have u9 := (Z9.out.below hw Z9.out.lt).cell; have u10 := (Z10.out.below hw Z10.out.lt).cell; have u11 := (Z11.out.below hw Z11.out.lt).cell; go_simp; try with_reducible rfl)
      replace hS := SG.set (i := 1) (by decide) (by decide) hS
      try simp only [Act.put, List.setIfInBounds_toArray, List.set_cons_zero, List.set_cons_succ]
      refine wpG_take0 (i := 2) (v := ?v32) rfl (by kernel_rfl) (by kernel_rfl) (by kernel_rfl) (by decide) (by decide) (fun _ _ _ h => h) hS (Or.inl ⟨by rfl, ?hy32⟩) ?rest32
      case hy32 => (intro w' hw; have u0 := (Y0.out.below hw Y0.out.lt).cell; have u1 := (Y1.out.below hw Y1.out.lt).cell; have u8 := (Z8.out.below hw Z8.out.lt).cell; have u9 := (Z9.out.below hw Z9.out.lt).cell; have u10 := (Z10.out.below hw Z10.out.lt).cell; have u11 := (Z11.out.below hw Z11.out.lt).cell; go_simp; try with_reducible rfl)
      replace hS := SG.set (i := 2) (by decide) (by decide) hS
      try simp only [Act.put, List.setIfInBounds_toArray, List.set_cons_zero, List.set_cons_succ]
      refine wpG_take0 (i := 3) (v := ?v33) rfl (by kernel_rfl) (by kernel_rfl) (by kernel_rfl) (by decide) (by decide) (fun _ _ _ h => h) hS (Or.inl ⟨by rfl, ?hy33⟩) ?rest33
      case hy33 => (intro w' hw; have u0 := (Y0.out.below hw Y0.out.lt).cell; have u1 := (Y1.out.below hw Y1.out.lt).cell; have u8 := (Z8.out.below hw Z8.out.lt).cell; have u9 := (Z9.out.below hw Z9.out.lt).cell; have u10 := (Z10.out.below hw Z10.out.lt).cell; have u11 := (Z11.out.below hw Z11.out.lt).cell; go_simp; try with_reducible rfl)
      replace hS := SG.set (i := 3) (by decide) (by decide) hS
      try simp only [Act.put, List.setIfInBounds_toArray, List.set_cons_zero, List.set_cons_succ]
      refine wpG_take0 (i := 5) (v := ?v34) rfl (by kernel_rfl) (by kernel_rfl) (by kernel_rfl) (by decide) (by decide) (fun _ _ _ h => h) hS (Or.inl ⟨by rfl, ?hy34⟩) ?rest34
      case hy34 => (intro w' hw; have u0 := (Y0.out.below hw Y0.out.lt).cell; have u1 := (Y1.out.below hw Y1.out.lt).cell; have u8 := (Z8.out.below hw Z8.out.lt).cell; have u9 := (Z9.out.below hw Z9.out.lt).cell; have u10 := (Z10.out.below hw Z10.out.lt).cell; have u11 := (Z11.out.below hw Z11.out.lt).cell; go_simp; try with_reducible rfl)
      replace hS := SG.set (i := 5) (by decide) (by decide) hS
      try simp only [Act.put, List.setIfInBounds_toArray, List.set_cons_zero, List.set_cons_succ]
      refine wpG_take0 (i := 6) (v := ?v35) rfl (by kernel_rfl) (by kernel_rfl) (by kernel_rfl) (by decide) (by decide) (fun _ _ _ h => h) hS (Or.inl ⟨by rfl, ?hy35⟩) ?rest35
      case hy35 => (intro w' hw; have u0 := (Y0.out.below hw Y0.out.lt).cell; have u1 := (Y1.out.below hw Y1.out.lt).cell; have u8 := (Z8.out.below hw Z8.out.lt).cell; have u9 := (Z9.out.below hw Z9.out.lt).cell; have u10 := (Z10.out.below hw Z10.out.lt).cell; have u11 := (Z11.out.below hw Z11.out.lt).cell; go_simp; try with_reducible rfl)
      replace hS := SG.set (i := 6) (by decide) (by decide) hS
      try simp only [Act.put, List.setIfInBounds_toArray, List.set_cons_zero, List.set_cons_succ]
      refine wpG_ready (rs := [4]) (by kernel_rfl) (by simp) ?_
      refine RG.consG rfl rfl (fun K hK => ?_) RG.nil
      go_simp
      refine (CG.out _ HG1.out).mono ?_
      rintro e x2 ⟨rfl, hx2⟩
      go_wp2_with fail
      have HG2 := Lib.hid (HG1.out.trans (hx2.mono HG1.out.size))
      clear hx2
      refine hK.out _ _ ⟨HG2.out, fun _ => trivial, fun _ => trivial⟩ (fun hS => ?_)
      clear hK K
      try simp only [Act.put, List.setIfInBounds_toArray, List.set_cons_zero, List.set_cons_succ]
      refine wpG_ready (rs := [7]) (by kernel_rfl) (by simp) ?_
      refine RG.consG rfl rfl (fun K hK => ?_) RG.nil
      go_simp
      refine (CF.out _ HG2.out).mono ?_
      rintro e x3 ⟨rfl, hx3⟩
      go_wp2_with fail
      have HG3 := Lib.hid (HG2.out.trans (hx3.mono HG2.out.size))
      clear hx3
      refine hK.out _ _ ⟨HG3.out, fun _ => trivial, fun _ => trivial⟩ (fun hS => ?_)
      clear hK K
      try simp only [Act.put, List.setIfInBounds_toArray, List.set_cons_zero, List.set_cons_succ]
      refine wpG_take0 (i := 8) (v := ?v36) rfl (by kernel_rfl) (by kernel_rfl) (by kernel_rfl) (by decide) (by decide) (fun _ _ _ h => h) hS (Or.inl ⟨by rfl, ?hy36⟩) ?rest36
      case hy36 => (intro w' hw; have u0 := (Y0.out.below hw Y0.out.lt).cell; have u1 := (Y1.out.below hw Y1.out.lt).cell; have u8 := (Z8.out.below hw Z8.out.lt).cell; have u9 := (Z9.out.below hw Z9.out.lt).cell; have u10 := (Z10.out.below hw Z10.out.lt).cell; have u11 := (Z11.out.below hw Z11.out.lt).cell; go_simp; try with_reducible rfl)
      replace hS := SG.set (i := 8) (by decide) (by decide) hS
      try simp only [Act.put, List.setIfInBounds_toArray, List.set_cons_zero, List.set_cons_succ]
      refine wpG_take0 (i := 9) (v := ?v37) rfl (by kernel_rfl) (by kernel_rfl) (by kernel_rfl) (by decide) (by decide) (fun _ _ _ h => h) hS (Or.inl ⟨by rfl, ?hy37⟩) ?rest37
      case hy37 => (intro w' hw; have u0 := (Y0.out.below hw Y0.out.lt).cell; have u1 := (Y1.out.below hw Y1.out.lt).cell; have u8 := (Z8.out.below hw Z8.out.lt).cell; have u9 := (Z9.out.below hw Z9.out.lt).cell; have u10 := (Z10.out.below hw Z10.out.lt).cell; have u11 := (Z11.out.below hw Z11.out.lt).cell; go_simp; try with_reducible rfl)
      replace hS := SG.set (i := 9) (by decide) (by decide) hS
      try simp only [Act.put, List.setIfInBounds_toArray, List.set_cons_zero, List.set_cons_succ]
      refine wpG_take0 (i := 10) (v := ?v38) rfl (by kernel_rfl) (by kernel_rfl) (by kernel_rfl) (by decide) (by decide) (fun _ _ _ h => h) hS (Or.inl ⟨by rfl, ?hy38⟩) ?rest38
      case hy38 => (intro w' hw; have u0 := (Y0.out.below hw Y0.out.lt).cell; have u1 := (Y1.out.below hw Y1.out.lt).cell; have u8 := (Z8.out.below hw Z8.out.lt).cell; have u9 := (Z9.out.below hw Z9.out.lt).cell; have u10 := (Z10.out.below hw Z10.out.lt).cell; have u11 := (Z11.out.below hw Z11.out.lt).cell; go_simp; try with_reducible rfl)
      replace hS := SG.set (i := 10) (by decide) (by decide) hS
      try simp only [Act.put, List.setIfInBounds_toArray, List.set_cons_zero, List.set_cons_succ]
      refine wpG_take0 (i := 11) (v := ?v39) rfl (by kernel_rfl) (by kernel_rfl) (by kernel_rfl) (by decide) (by decide) (fun _ _ _ h => h) hS (Or.inl ⟨by rfl, ?hy39⟩) ?rest39
      case hy39 => (intro w' hw; have u0 := (Y0.out.below hw Y0.out.lt).cell; have u1 := (Y1.out.below hw Y1.out.lt).cell; have u8 := (Z8.out.below hw Z8.out.lt).cell; have u9 := (Z9.out.below hw Z9.out.lt).cell; have u10 := (Z10.out.below hw Z10.out.lt).cell; have u11 := (Z11.out.below hw Z11.out.lt).cell; go_simp; try with_reducible rfl)
      replace hS := SG.set (i := 11) (by decide) (by decide) hS
      try simp only [Act.put, List.setIfInBounds_toArray, List.set_cons_zero, List.set_cons_succ]
      refine wpG_take0 (i := 12) (v := ?v40) rfl (by kernel_rfl) (by kernel_rfl) (by kernel_rfl) (by decide) (by decide) (fun _ _ _ h => h) hS (Or.inl ⟨by rfl, ?hy40⟩) ?rest40
      case hy40 => (intro w' hw; have u0 := (Y0.out.below hw Y0.out.lt).cell; have u1 := (Y1.out.below hw Y1.out.lt).cell; have u8 := (Z8.out.below hw Z8.out.lt).cell; have u9 := (Z9.out.below hw Z9.out.lt).cell; have u10 := (Z10.out.below hw Z10.out.lt).cell; have u11 := (Z11.out.below hw Z11.out.lt).cell; go_simp; try with_reducible rfl)
      replace hS := SG.set (i := 12) (by decide) (by decide) hS
      try simp only [Act.put, List.setIfInBounds_toArray, List.set_cons_zero, List.set_cons_succ]
      refine wpG_take0 (i := 14) (v := ?v41) rfl (by kernel_rfl) (by kernel_rfl) (by kernel_rfl) (by decide) (by decide) (fun _ _ _ h => h) hS (Or.inl ⟨by rfl, ?hy41⟩) ?rest41
      case hy41 => (intro w' hw; have u0 := (Y0.out.below hw Y0.out.lt).cell; have u1 := (Y1.out.below hw Y1.out.lt).cell; have u8 := (Z8.out.below hw Z8.out.lt).cell; have u9 := (Z9.out.below hw Z9.out.lt).cell; have u10 := (Z10.out.below hw Z10.out.lt).cell; have u11 := (Z11.out.below hw Z11.out.lt).cell; go_simp; try with_reducible rfl)
      replace hS := SG.set (i := 14) (by decide) (by decide) hS
      try simp only [Act.put, List.setIfInBounds_toArray, List.set_cons_zero, List.set_cons_succ]
      refine wpG_take0 (i := 15) (v := ?v42) rfl (by kernel_rfl) (by kernel_rfl) (by kernel_rfl) (by decide) (by decide) (fun _ _ _ h => h) hS (Or.inl ⟨by rfl, ?hy42⟩) ?rest42
      case hy42 => (intro w' hw; have u0 := (Y0.out.below hw Y0.out.lt).cell; have u1 := (Y1.out.below hw Y1.out.lt).cell; have u8 := (Z8.out.below hw Z8.out.lt).cell; have u9 := (Z9.out.below hw Z9.out.lt).cell; have u10 := (Z10.out.below hw Z10.out.lt).cell; have u11 := (Z11.out.below hw Z11.out.lt).cell; go_simp; try with_reducible rfl)
      replace hS := SG.set (i := 15) (by decide) (by decide) hS
      try simp only [Act.put, List.setIfInBounds_toArray, List.set_cons_zero, List.set_cons_succ]
      refine wpG_ready (rs := [13]) (by kernel_rfl) (by simp) ?_
      refine RG.consG rfl rfl (fun K hK => ?_) RG.nil
      go_simp
      refine (CH.out _ HG3.out).mono ?_
      rintro e x4 ⟨rfl, hx4⟩
      go_wp2_with fail
      have HG4 := Lib.hid (HG3.out.trans (hx4.mono HG3.out.size))
      clear hx4
      refine hK.out _ _ ⟨HG4.out, fun _ => trivial, fun _ => trivial⟩ (fun hS => ?_)
      clear hK K
      try simp only [Act.put, List.setIfInBounds_toArray, List.set_cons_zero, List.set_cons_succ]
      refine wpG_ready (rs := [16]) (by kernel_rfl) (by simp) ?_
      refine RG.consG rfl rfl (fun K hK => ?_) RG.nil
      go_simp
      refine (CF.out _ HG4.out).mono ?_
      rintro e x5 ⟨rfl, hx5⟩
      go_wp2_with fail
      have HG5 := Lib.hid (HG4.out.trans (hx5.mono HG4.out.size))
      clear hx5
      refine hK.out _ _ ⟨HG5.out, fun _ => trivial, fun _ => trivial⟩ (fun hS => ?_)
      clear hK K
      try simp only [Act.put, List.setIfInBounds_toArray, List.set_cons_zero, List.set_cons_succ]
      refine wpG_take0 (i := 17) (v := ?v43) rfl (by kernel_rfl) (by kernel_rfl) (by kernel_rfl) (by decide) (by decide) (fun _ _ _ h => h) hS (Or.inl ⟨by rfl, ?hy43⟩) ?rest43
      case hy43 => (intro w' hw; have u0 := (Y0.out.below hw Y0.out.lt).cell; have u1 := (Y1.out.below hw Y1.out.lt).cell; have u8 := (Z8.out.below hw Z8.out.lt).cell; have u9 := (Z9.out.below hw Z9.out.lt).cell; have u10 := (Z10.out.below hw Z10.out.lt).cell; have u11 := (Z11.out.below hw Z11.out.lt).cell; go_simp; try with_reducible rfl)
      replace hS := SG.set (i := 17) (by decide) (by decide) hS
      try simp only [Act.put, List.setIfInBounds_toArray, List.set_cons_zero, List.set_cons_succ]
      refine wpG_take0 (i := 18) (v := ?v44) rfl (by kernel_rfl) (by kernel_rfl) (by kernel_rfl) (by decide) (by decide) (fun _ _ _ h => h) hS (Or.inl ⟨by rfl, ?hy44⟩) ?rest44
      case hy44 => (intro w' hw; have u0 := (Y0.out.below hw Y0.out.lt).cell; have u1 := (Y1.out.below hw Y1.out.lt).cell; have u8 := (Z8.out.below hw Z8.out.lt).cell; have u9 := (Z9.out.below hw Z9.out.lt).cell; have u10 := (Z10.out.below hw Z10.out.lt).cell; have u11 := (Z11.out.below hw Z11.out.lt).cell; go_simp; try with_reducible rfl)
      replace hS := SG.set (i := 18) (by decide) (by decide) hS
      try simp only [Act.put, List.setIfInBounds_toArray, List.set_cons_zero, List.set_cons_succ]
      refine wpG_take0 (i := 19) (v := ?v45) rfl (by kernel_rfl) (by kernel_rfl) (by kernel_rfl) (by decide) (by decide) (fun _ _ _ h => h) hS (Or.inl ⟨by rfl, ?hy45⟩) ?rest45
      case hy45 => (intro w' hw; have u0 := (Y0.out.below hw Y0.out.lt).cell; have u1 := (Y1.out.below hw Y1.out.lt).cell; have u8 := (Z8.out.below hw Z8.out.lt).cell; have u9 := (Z9.out.below hw Z9.out.lt).cell; have u10 := (Z10.out.below hw Z10.out.lt).cell; have u11 := (Z11.out.below hw Z11.out.lt).cell; go_simp; try with_reducible rfl)
      replace hS := SG.set (i := 19) (by decide) (by decide) hS
      try simp only [Act.put, List.setIfInBounds_toArray, List.set_cons_zero, List.set_cons_succ]
      refine wpG_done (by kernel_rfl) ?_ _
      go_wp2_with fail
      (first | go_ret | go_ret2)
      exact ⟨rfl, HB1.out.trans ((HV5.out.trans (HG5.out.mono HV5.out.size)).mono HB1.out.size)⟩
end Tm
end Go.Proofs.YtifkjngclkklfaaGreatDoor
