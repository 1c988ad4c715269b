/- The law RelateOrder, walked. -/
import Derived.Test.YtifkjngclkklfaaGreatDoorMGr
import Derived.Test.YtifkjngclkklfaaGreatDoorMGs
import Derived.BigQuiet
import Derived.Lib.QuietBelow
namespace Go.Proofs.YtifkjngclkklfaaGreatDoor
open Go.RowKit Go.Op
namespace Tm
set_option maxHeartbeats 8000000 in
set_option maxRecDepth 100000 in
theorem order_walk (w : World) (t0 : Ty) (P0 : Nat → Prop) (N0 : Option Addr) (n0 : Nat) (V0 : Option Addr) (v0 : Nat) (h0 : TI w P0 t0 N0 n0 V0 v0) (t1 : Ty) (P1 : Nat → Prop) (N1 : Option Addr) (n1 : Nat) (V1 : Option Addr) (v1 : Nat) (h1 : TI w P1 t1 N1 n1 V1 v1) (t2 : Ty) (P2 : Nat → Prop) (N2 : Option Addr) (n2 : Nat) (V2 : Option Addr) (v2 : Nat) (h2 : TI w P2 t2 N2 n2 V2 v2) (hT : Tabs w) (hE : Errs w) :
    Calls Tryz.prog 9 #[tv t0 N0 n0 V0 v0, tv t1 N1 n1 V1 v1, tv t2 N2 n2 V2 v2] w fun e w' => e = .returned (.bool true) ∧ Below w.heap.size w w' := by
  have d0 := bel1 w (.cells (tcc t0 N0 n0 V0 v0) 25)
  have d1 := bel1 (w.alloc (.cells (tcc t0 N0 n0 V0 v0) 25)) (.cells (tcc t1 N1 n1 V1 v1) 25)
  have d2 := bel1 ((w.alloc (.cells (tcc t0 N0 n0 V0 v0) 25)).alloc (.cells (tcc t1 N1 n1 V1 v1) 25)) (.cells (tcc t2 N2 n2 V2 v2) 25)
  have e1 := d0.trans (d1.mono d0.size)
  have e2 := e1.trans (d2.mono e1.size)
  have R0 : Hid (RowB (((w.alloc (.cells (tcc t0 N0 n0 V0 v0) 25)).alloc (.cells (tcc t1 N1 n1 V1 v1) 25)).alloc (.cells (tcc t2 N2 n2 V2 v2) 25)) (w.heap.size) 25 (tcc t0 N0 n0 V0 v0)) := by
    have := RowB.new w 25 (tcc t0 N0 n0 V0 v0)
    have h2 : w.heap.size = w.heap.size := by simp
    rw [h2] at this
    exact ((this.alloc (.cells (tcc t1 N1 n1 V1 v1) 25)).alloc (.cells (tcc t2 N2 n2 V2 v2) 25))
  have R1 : Hid (RowB (((w.alloc (.cells (tcc t0 N0 n0 V0 v0) 25)).alloc (.cells (tcc t1 N1 n1 V1 v1) 25)).alloc (.cells (tcc t2 N2 n2 V2 v2) 25)) (w.heap.size + 1) 25 (tcc t1 N1 n1 V1 v1)) := by
    have := RowB.new (w.alloc (.cells (tcc t0 N0 n0 V0 v0) 25)) 25 (tcc t1 N1 n1 V1 v1)
    have h2 : (w.alloc (.cells (tcc t0 N0 n0 V0 v0) 25)).heap.size = w.heap.size + 1 := by simp
    rw [h2] at this
    exact (this.alloc (.cells (tcc t2 N2 n2 V2 v2) 25))
  have R2 : Hid (RowB (((w.alloc (.cells (tcc t0 N0 n0 V0 v0) 25)).alloc (.cells (tcc t1 N1 n1 V1 v1) 25)).alloc (.cells (tcc t2 N2 n2 V2 v2) 25)) (w.heap.size + 1 + 1) 25 (tcc t2 N2 n2 V2 v2)) := by
    have := RowB.new ((w.alloc (.cells (tcc t0 N0 n0 V0 v0) 25)).alloc (.cells (tcc t1 N1 n1 V1 v1) 25)) 25 (tcc t2 N2 n2 V2 v2)
    have h2 : ((w.alloc (.cells (tcc t0 N0 n0 V0 v0) 25)).alloc (.cells (tcc t1 N1 n1 V1 v1) 25)).heap.size = w.heap.size + 1 + 1 := by simp
    rw [h2] at this
    exact this
  have I0 := Lib.hid (h0.below e2)
  have I1 := Lib.hid (h1.below e2)
  have I2 := Lib.hid (h2.below e2)
  have HB0 := Lib.hid e2
  have HT := Lib.hid (Tabs.step hT e2)
  have HE := Lib.hid (hE.below e2)
  obtain ⟨W0, hW0⟩ : ∃ W0, W0 = (((w.alloc (.cells (tcc t0 N0 n0 V0 v0) 25)).alloc (.cells (tcc t1 N1 n1 V1 v1) 25)).alloc (.cells (tcc t2 N2 n2 V2 v2) 25)) := ⟨_, rfl⟩
  have r0 := R0.out.cell
  have r1 := R1.out.cell
  have r2 := R2.out.cell
  rw [← hW0] at I0 I1 I2 HB0 HT HE R0 R1 R2
  have b3 : Hid (Below W0.heap.size W0 (W0.alloc (.cells #[Value.int .i64 t0.kind, .slice N0 t0.names.length n0, .slice V0 t0.parts.length v0, Value.int .i64 t1.kind, .slice N1 t1.names.length n1, .slice V1 t1.parts.length v1, Value.int .i64 t2.kind, .slice N2 t2.names.length n2, .slice V2 t2.parts.length v2] 25))) := bel1 W0 _
  have HV : Hid (TV (W0.alloc (.cells #[Value.int .i64 t0.kind, .slice N0 t0.names.length n0, .slice V0 t0.parts.length v0, Value.int .i64 t1.kind, .slice N1 t1.names.length n1, .slice V1 t1.parts.length v1, Value.int .i64 t2.kind, .slice N2 t2.names.length n2, .slice V2 t2.parts.length v2] 25)) (fun g => (P0 g ∨ P1 g ∨ P2 g) ∨ g = W0.heap.size) [t0, t1, t2] (some ⟨W0.heap.size, 0, none⟩) 3) := by
    refine TV.new (RowB.new W0 25 _) ?_ (.inr rfl)
    have k0 := (I0.out.below b3.out).mono (Q := (fun g => (P0 g ∨ P1 g ∨ P2 g) ∨ g = W0.heap.size)) fun g h => .inl (.inl h)
    have k1 := (I1.out.below b3.out).mono (Q := (fun g => (P0 g ∨ P1 g ∨ P2 g) ∨ g = W0.heap.size)) fun g h => .inl (.inr (.inl h))
    have k2 := (I2.out.below b3.out).mono (Q := (fun g => (P0 g ∨ P1 g ∨ P2 g) ∨ g = W0.heap.size)) fun g h => .inl (.inr (.inr (h)))
    exact TL.app _ _ (TL.one k0) (TL.app _ _ (TL.one k1) (TL.one k2))
  have CF := Lib.hid (fits10_any _ [t0, t1, t2] _ _ _ HV.out (by simp))
  clear d0 d1 d2 e1 e2 h0 h1 h2 hT hE
  have hsz : W0.heap.size = w.heap.size + 1 + 1 + 1 := by rw [hW0]; simp
  have hcf := CF.out
  simp only [List.length_cons, List.length_nil, hsz] at hcf
  have CF2 := Lib.hid hcf
  obtain ⟨ft, hft⟩ : ∃ ft, ft = [t0, t1, t2].all fitB := ⟨_, rfl⟩
  rw [← hft] at CF2
  have HFT := Lib.hid hft
  clear hcf CF hsz hft
  go_enter Tryz.func9, Tryz.ntmps9
  go_wp2_with fail
  rw [← hW0]
  refine CF2.out.mono ?_
  rintro e w1 ⟨rfl, hb1⟩
  have b4 := b3.out.trans (hb1.mono b3.out.size)
  have HB1 := Lib.hid (HB0.out.trans (b4.mono HB0.out.size))
  have X0 := Lib.hid (R0.out.below b4 R0.out.lt)
  have J0 := Lib.hid (I0.out.below b4)
  have X1 := Lib.hid (R1.out.below b4 R1.out.lt)
  have J1 := Lib.hid (I1.out.below b4)
  have X2 := Lib.hid (R2.out.below b4 R2.out.lt)
  have J2 := Lib.hid (I2.out.below b4)
  have HT1 := Lib.hid (Tabs.step HT.out b4)
  have HE1 := Lib.hid (HE.out.below b4)
  have x0 := X0.out.cell
  have x1 := X1.out.cell
  have x2 := X2.out.cell
  clear hW0 b4 hb1 CF2 b3 HV HT HE HB0 I0 R0 r0 I1 R1 r1 I2 R2 r2
  cases ft with
  | false =>
    have CA := Lib.hid (awake10_any w1 HT1.out HE1.out)
    go_wp2_with fail
    refine CA.out.mono ?_
    rintro e w2 ⟨rfl, hb2⟩
    have HB2 := Lib.hid (HB1.out.trans (hb2.mono HB1.out.size))
    clear hb2 CA
    go_wp2_with fail
    (first | go_ret | go_ret2)
    exact ⟨rfl, HB2.out⟩
  | true =>
    have hfit := HFT.out.symm
    simp only [List.all_cons, List.all_nil, Bool.and_true, Bool.and_eq_true, fitB] at hfit
    obtain ⟨⟨l0, r0⟩, ⟨l1, r1⟩, l2, r2⟩ := hfit
    have c0 := (light_cnt l0).1
    have c1 := (light_cnt l1).1
    have c2 := (light_cnt l2).1
    have hrf := flows_refl t0 r0
    have htr : t0.static = true → t1.static = true → t2.static = true → flows t0 t1 = true → flows t1 t2 = true → flows t0 t2 = true := fun sa sb sc h k => flows_trans _ t0 t1 t2 (Nat.le_max_left _ (max t1.depth t2.depth)) (Nat.le_trans (Nat.le_max_left _ _) (Nat.le_max_right _ _)) (Nat.le_trans (Nat.le_max_right _ _) (Nat.le_max_right _ _)) r0 r1 r2 sa sb sc h k
    have han : t0.static = true → t1.static = true → flows t0 t1 = true → flows t1 t0 = true → t0.same t1 = true := fun sa sb h k => (Ty.same_iff _ _).2 (flows_anti _ t0 t1 (Nat.le_max_left _ t1.depth) (Nat.le_max_right _ _) r0 r1 sa sb h k)
    have HZ : ∀ w' (P : Nat → Prop), TI w' P dyn none 0 none 0 := fun w' P => TI_iff.2 ⟨NV.nil w' P _ _, TV.nil w' P _ _⟩
    have hzc : dyn.cnt ≤ 1000001 := by decide
    have KF0 : ∀ w', Below w1.heap.size w1 w' → ∀ va vb r, (va = tv t0 N0 n0 V0 v0 ∧ vb = tv t0 N0 n0 V0 v0 ∧ r = true) ∨ (va = tv t0 N0 n0 V0 v0 ∧ vb = .agg #[.int .i64 0, .slice none 0 0, .slice none 0 0] ∧ r = true) ∨ (va = .agg #[.int .i64 0, .slice none 0 0, .slice none 0 0] ∧ vb = tv t0 N0 n0 V0 v0 ∧ r = true) ∨ (va = tv t0 N0 n0 V0 v0 ∧ vb = tv t1 N1 n1 V1 v1 ∧ r = flows t0 t1) ∨ (va = tv t1 N1 n1 V1 v1 ∧ vb = tv t2 N2 n2 V2 v2 ∧ r = flows t1 t2) ∨ (va = tv t0 N0 n0 V0 v0 ∧ vb = tv t2 N2 n2 V2 v2 ∧ r = flows t0 t2) ∨ (va = tv t1 N1 n1 V1 v1 ∧ vb = tv t0 N0 n0 V0 v0 ∧ r = flows t1 t0) → Calls Tryz.prog 32 #[va, vb] w' fun e w2 => e = .returned (.bool r) ∧ Below w'.heap.size w' w2 := by
      intro w' hb va vb r h
      rcases h with ⟨rfl, rfl, rfl⟩ | ⟨rfl, rfl, rfl⟩ | ⟨rfl, rfl, rfl⟩ | ⟨rfl, rfl, rfl⟩ | ⟨rfl, rfl, rfl⟩ | ⟨rfl, rfl, rfl⟩ | ⟨rfl, rfl, rfl⟩
      · have := pflows_any r0 r0 (by omega) (by omega) w' _ _ _ _ _ _ _ _ _ _ (J0.out.below hb) (J0.out.below hb)
        rw [hrf] at this
        exact this
      · have := pflows_any r0 dyn_right (by omega) hzc w' _ _ _ _ _ _ _ _ _ _ (J0.out.below hb) (HZ w' (fun _ => True))
        rw [flows_dyn t0] at this
        exact this
      · have := pflows_any dyn_right r0 hzc (by omega) w' _ _ _ _ _ _ _ _ _ _ (HZ w' (fun _ => True)) (J0.out.below hb)
        rw [dyn_flows t0] at this
        exact this
      · have := pflows_any r0 r1 (by omega) (by omega) w' _ _ _ _ _ _ _ _ _ _ (J0.out.below hb) (J1.out.below hb)
        exact this
      · have := pflows_any r1 r2 (by omega) (by omega) w' _ _ _ _ _ _ _ _ _ _ (J1.out.below hb) (J2.out.below hb)
        exact this
      · have := pflows_any r0 r2 (by omega) (by omega) w' _ _ _ _ _ _ _ _ _ _ (J0.out.below hb) (J2.out.below hb)
        exact this
      · have := pflows_any r1 r0 (by omega) (by omega) w' _ _ _ _ _ _ _ _ _ _ (J1.out.below hb) (J0.out.below hb)
        exact this
    have KT0 : ∀ w', Below w1.heap.size w1 w' → ∀ va r, (va = tv t0 N0 n0 V0 v0 ∧ r = t0.static) ∨ (va = tv t1 N1 n1 V1 v1 ∧ r = t1.static) ∨ (va = tv t2 N2 n2 V2 v2 ∧ r = t2.static) → Calls Tryz.prog 19 #[va] w' fun e w2 => e = .returned (.bool r) ∧ Below w'.heap.size w' w2 := by
      intro w' hb va r h
      rcases h with ⟨rfl, rfl⟩ | ⟨rfl, rfl⟩ | ⟨rfl, rfl⟩
      · exact rstatic_any t0 (by omega) w' _ _ _ _ _ (J0.out.below hb)
      · exact rstatic_any t1 (by omega) w' _ _ _ _ _ (J1.out.below hb)
      · exact rstatic_any t2 (by omega) w' _ _ _ _ _ (J2.out.below hb)
    have KS0 : Hid (∀ w', Below w1.heap.size w1 w' → Calls Tryz.prog 21 #[tv t0 N0 n0 V0 v0, tv t1 N1 n1 V1 v1] w' fun e w2 => e = .returned (.bool (t0.same t1)) ∧ Below w'.heap.size w' w2) := fun w' hb => rsame_any t0 (by omega) t1 (by omega) w' _ _ _ _ _ _ _ _ _ _ (J0.out.below hb) (J1.out.below hb)
    have KA : Hid (∀ w', Below w1.heap.size w1 w' → Calls Tryz.prog 31 #[] w' fun e w2 => e = .returned (.bool true) ∧ Below w'.heap.size w' w2) := fun w' hb => awake10_any w' (Tabs.step HT1.out hb) (HE1.out.below hb)
    obtain ⟨fab, hfab⟩ : ∃ x, x = flows t0 t1 := ⟨_, rfl⟩
    obtain ⟨fbc, hfbc⟩ : ∃ x, x = flows t1 t2 := ⟨_, rfl⟩
    obtain ⟨fac, hfac⟩ : ∃ x, x = flows t0 t2 := ⟨_, rfl⟩
    obtain ⟨fba, hfba⟩ : ∃ x, x = flows t1 t0 := ⟨_, rfl⟩
    obtain ⟨sm, hsm⟩ : ∃ x, x = t0.same t1 := ⟨_, rfl⟩
    obtain ⟨s0, hs0⟩ : ∃ x, x = t0.static := ⟨_, rfl⟩
    obtain ⟨s1, hs1⟩ : ∃ x, x = t1.static := ⟨_, rfl⟩
    obtain ⟨s2, hs2⟩ : ∃ x, x = t2.static := ⟨_, rfl⟩
    rw [← hfab, ← hfbc, ← hfac, ← hs0, ← hs1, ← hs2] at htr
    rw [← hfab, ← hfba, ← hsm, ← hs0, ← hs1] at han
    rw [← hfab, ← hfbc, ← hfac, ← hfba] at KF0
    rw [← hs0, ← hs1, ← hs2] at KT0
    rw [← hsm] at KS0
    replace htr := Lib.hid htr
    replace han := Lib.hid han
    clear hfab hfbc hfac hfba hsm hs0 hs1 hs2 hrf HZ hzc l0 l1 l2 r0 r1 r2 c0 c1 c2 HFT J0 J1 J2 HT1 HE1
    obtain ⟨k0, m0, q0⟩ := t0
    obtain ⟨k1, m1, q1⟩ := t1
    obtain ⟨k2, m2, q2⟩ := t2
    simp only [tcc, tv, kind_mk, names_mk, parts_mk] at x0 x1 x2 X0 X1 X2 KF0 KT0 KS0
    have KF := Lib.hid KF0
    have KT := Lib.hid KT0
    have KS := KS0
    clear KF0 KT0 KS0
    obtain ⟨W1, hW1⟩ : ∃ W1, W1 = w1 := ⟨_, rfl⟩
    have HW1 : Hid (Below w1.heap.size w1 W1) := by rw [hW1]; exact Below.refl _ _
    rw [← hW1] at x0 x1 x2 ⊢
    clear hW1
    go_wp2_with fail
    refine (KF.out W1 HW1.out _ _ _ (.inl ⟨rfl, rfl, rfl⟩)).mono ?_
    rintro e W2 ⟨rfl, hb⟩
    have HW2 := Lib.hid (HW1.out.trans (hb.mono HW1.out.size))
    clear x0 x1 x2 hb HW1
    have x0 := (X0.out.below HW2.out X0.out.lt).cell
    have x1 := (X1.out.below HW2.out X1.out.lt).cell
    have x2 := (X2.out.below HW2.out X2.out.lt).cell
    go_wp2_with fail
    refine (KF.out W2 HW2.out _ _ _ (.inr (.inl ⟨rfl, rfl, rfl⟩))).mono ?_
    rintro e W3 ⟨rfl, hb⟩
    have HW3 := Lib.hid (HW2.out.trans (hb.mono HW2.out.size))
    clear x0 x1 x2 hb HW2
    have x0 := (X0.out.below HW3.out X0.out.lt).cell
    have x1 := (X1.out.below HW3.out X1.out.lt).cell
    have x2 := (X2.out.below HW3.out X2.out.lt).cell
    go_wp2_with fail
    refine (KF.out W3 HW3.out _ _ _ (.inr (.inr (.inl ⟨rfl, rfl, rfl⟩)))).mono ?_
    rintro e W4 ⟨rfl, hb⟩
    have HW4 := Lib.hid (HW3.out.trans (hb.mono HW3.out.size))
    clear x0 x1 x2 hb HW3
    have x0 := (X0.out.below HW4.out X0.out.lt).cell
    have x1 := (X1.out.below HW4.out X1.out.lt).cell
    have x2 := (X2.out.below HW4.out X2.out.lt).cell
    cases s0 with
    | false =>
      clear htr han
      go_wp2_with fail
      refine (KT.out W4 HW4.out _ _ (.inl ⟨rfl, rfl⟩)).mono ?_
      rintro e W5 ⟨rfl, hb⟩
      have HW5 := Lib.hid (HW4.out.trans (hb.mono HW4.out.size))
      clear x0 x1 x2 hb HW4
      have x0 := (X0.out.below HW5.out X0.out.lt).cell
      have x1 := (X1.out.below HW5.out X1.out.lt).cell
      have x2 := (X2.out.below HW5.out X2.out.lt).cell
      go_wp2_with fail
      refine (KA.out W5 HW5.out).mono ?_
      rintro e W6 ⟨rfl, hb⟩
      have HW6 := Lib.hid (HW5.out.trans (hb.mono HW5.out.size))
      clear x0 x1 x2 hb HW5
      have x0 := (X0.out.below HW6.out X0.out.lt).cell
      have x1 := (X1.out.below HW6.out X1.out.lt).cell
      have x2 := (X2.out.below HW6.out X2.out.lt).cell
      clear x0 x1 x2 KF KT KS KA
      go_wp2_with fail
      (first | go_ret | go_ret2)
      exact ⟨rfl, HB1.out.trans (HW6.out.mono HB1.out.size)⟩
    | true =>
    go_wp2_with fail
    refine (KT.out W4 HW4.out _ _ (.inl ⟨rfl, rfl⟩)).mono ?_
    rintro e W5 ⟨rfl, hb⟩
    have HW5 := Lib.hid (HW4.out.trans (hb.mono HW4.out.size))
    clear x0 x1 x2 hb HW4
    have x0 := (X0.out.below HW5.out X0.out.lt).cell
    have x1 := (X1.out.below HW5.out X1.out.lt).cell
    have x2 := (X2.out.below HW5.out X2.out.lt).cell
    cases s1 with
    | false =>
      clear htr han
      go_wp2_with fail
      refine (KT.out W5 HW5.out _ _ (.inr (.inl ⟨rfl, rfl⟩))).mono ?_
      rintro e W6 ⟨rfl, hb⟩
      have HW6 := Lib.hid (HW5.out.trans (hb.mono HW5.out.size))
      clear x0 x1 x2 hb HW5
      have x0 := (X0.out.below HW6.out X0.out.lt).cell
      have x1 := (X1.out.below HW6.out X1.out.lt).cell
      have x2 := (X2.out.below HW6.out X2.out.lt).cell
      go_wp2_with fail
      refine (KA.out W6 HW6.out).mono ?_
      rintro e W7 ⟨rfl, hb⟩
      have HW7 := Lib.hid (HW6.out.trans (hb.mono HW6.out.size))
      clear x0 x1 x2 hb HW6
      have x0 := (X0.out.below HW7.out X0.out.lt).cell
      have x1 := (X1.out.below HW7.out X1.out.lt).cell
      have x2 := (X2.out.below HW7.out X2.out.lt).cell
      clear x0 x1 x2 KF KT KS KA
      go_wp2_with fail
      (first | go_ret | go_ret2)
      exact ⟨rfl, HB1.out.trans (HW7.out.mono HB1.out.size)⟩
    | true =>
    go_wp2_with fail
    refine (KT.out W5 HW5.out _ _ (.inr (.inl ⟨rfl, rfl⟩))).mono ?_
    rintro e W6 ⟨rfl, hb⟩
    have HW6 := Lib.hid (HW5.out.trans (hb.mono HW5.out.size))
    clear x0 x1 x2 hb HW5
    have x0 := (X0.out.below HW6.out X0.out.lt).cell
    have x1 := (X1.out.below HW6.out X1.out.lt).cell
    have x2 := (X2.out.below HW6.out X2.out.lt).cell
    cases s2 with
    | false =>
      clear htr han
      go_wp2_with fail
      refine (KT.out W6 HW6.out _ _ (.inr (.inr (⟨rfl, rfl⟩)))).mono ?_
      rintro e W7 ⟨rfl, hb⟩
      have HW7 := Lib.hid (HW6.out.trans (hb.mono HW6.out.size))
      clear x0 x1 x2 hb HW6
      have x0 := (X0.out.below HW7.out X0.out.lt).cell
      have x1 := (X1.out.below HW7.out X1.out.lt).cell
      have x2 := (X2.out.below HW7.out X2.out.lt).cell
      go_wp2_with fail
      refine (KA.out W7 HW7.out).mono ?_
      rintro e W8 ⟨rfl, hb⟩
      have HW8 := Lib.hid (HW7.out.trans (hb.mono HW7.out.size))
      clear x0 x1 x2 hb HW7
      have x0 := (X0.out.below HW8.out X0.out.lt).cell
      have x1 := (X1.out.below HW8.out X1.out.lt).cell
      have x2 := (X2.out.below HW8.out X2.out.lt).cell
      clear x0 x1 x2 KF KT KS KA
      go_wp2_with fail
      (first | go_ret | go_ret2)
      exact ⟨rfl, HB1.out.trans (HW8.out.mono HB1.out.size)⟩
    | true =>
    go_wp2_with fail
    refine (KT.out W6 HW6.out _ _ (.inr (.inr (⟨rfl, rfl⟩)))).mono ?_
    rintro e W7 ⟨rfl, hb⟩
    have HW7 := Lib.hid (HW6.out.trans (hb.mono HW6.out.size))
    clear x0 x1 x2 hb HW6
    have x0 := (X0.out.below HW7.out X0.out.lt).cell
    have x1 := (X1.out.below HW7.out X1.out.lt).cell
    have x2 := (X2.out.below HW7.out X2.out.lt).cell
    replace htr := Lib.hid (htr.out (by trivial) (by trivial) (by trivial))
    replace han := Lib.hid (han.out (by trivial) (by trivial))
    go_wp2_with fail
    refine (KF.out W7 HW7.out _ _ _ (.inr (.inr (.inr (.inl ⟨rfl, rfl, rfl⟩))))).mono ?_
    rintro e W8 ⟨rfl, hb⟩
    have HW8 := Lib.hid (HW7.out.trans (hb.mono HW7.out.size))
    clear x0 x1 x2 hb HW7
    have x0 := (X0.out.below HW8.out X0.out.lt).cell
    have x1 := (X1.out.below HW8.out X1.out.lt).cell
    have x2 := (X2.out.below HW8.out X2.out.lt).cell
    cases fab with
    | false =>
      clear htr han
      go_wp2_with fail
      refine (KA.out W8 HW8.out).mono ?_
      rintro e W9 ⟨rfl, hb⟩
      have HW9 := Lib.hid (HW8.out.trans (hb.mono HW8.out.size))
      clear x0 x1 x2 hb HW8
      have x0 := (X0.out.below HW9.out X0.out.lt).cell
      have x1 := (X1.out.below HW9.out X1.out.lt).cell
      have x2 := (X2.out.below HW9.out X2.out.lt).cell
      go_wp2_with fail
      refine (KF.out W9 HW9.out _ _ _ (.inr (.inr (.inr (.inl ⟨rfl, rfl, rfl⟩))))).mono ?_
      rintro e W10 ⟨rfl, hb⟩
      have HW10 := Lib.hid (HW9.out.trans (hb.mono HW9.out.size))
      clear x0 x1 x2 hb HW9
      have x0 := (X0.out.below HW10.out X0.out.lt).cell
      have x1 := (X1.out.below HW10.out X1.out.lt).cell
      have x2 := (X2.out.below HW10.out X2.out.lt).cell
      clear x0 x1 x2 KF KT KS KA
      go_wp2_with fail
      (first | go_ret | go_ret2)
      exact ⟨rfl, HB1.out.trans (HW10.out.mono HB1.out.size)⟩
    | true =>
    go_wp2_with fail
    refine (KF.out W8 HW8.out _ _ _ (.inr (.inr (.inr (.inr (.inl ⟨rfl, rfl, rfl⟩)))))).mono ?_
    rintro e W9 ⟨rfl, hb⟩
    have HW9 := Lib.hid (HW8.out.trans (hb.mono HW8.out.size))
    clear x0 x1 x2 hb HW8
    have x0 := (X0.out.below HW9.out X0.out.lt).cell
    have x1 := (X1.out.below HW9.out X1.out.lt).cell
    have x2 := (X2.out.below HW9.out X2.out.lt).cell
    have hc : (fbc = false ∨ (fbc = true ∧ fac = true)) := by
      cases fbc with
      | false => exact .inl rfl
      | true => exact .inr ⟨rfl, htr.out (by trivial) (by trivial)⟩
    have hd : (fba = false ∨ (fba = true ∧ sm = true)) := by
      cases fba with
      | false => exact .inl rfl
      | true => exact .inr ⟨rfl, han.out (by trivial) (by trivial)⟩
    clear htr han
    rcases hc with rfl | ⟨rfl, rfl⟩
    · go_wp2_with fail
      refine (KA.out W9 HW9.out).mono ?_
      rintro e W10 ⟨rfl, hb⟩
      have HW10 := Lib.hid (HW9.out.trans (hb.mono HW9.out.size))
      clear x0 x1 x2 hb HW9
      have x0 := (X0.out.below HW10.out X0.out.lt).cell
      have x1 := (X1.out.below HW10.out X1.out.lt).cell
      have x2 := (X2.out.below HW10.out X2.out.lt).cell
      go_wp2_with fail
      refine (KF.out W10 HW10.out _ _ _ (.inr (.inr (.inr (.inl ⟨rfl, rfl, rfl⟩))))).mono ?_
      rintro e W11 ⟨rfl, hb⟩
      have HW11 := Lib.hid (HW10.out.trans (hb.mono HW10.out.size))
      clear x0 x1 x2 hb HW10
      have x0 := (X0.out.below HW11.out X0.out.lt).cell
      have x1 := (X1.out.below HW11.out X1.out.lt).cell
      have x2 := (X2.out.below HW11.out X2.out.lt).cell
      go_wp2_with fail
      refine (KF.out W11 HW11.out _ _ _ (.inr (.inr (.inr (.inr (.inr (.inr (⟨rfl, rfl, rfl⟩)))))))).mono ?_
      rintro e W12 ⟨rfl, hb⟩
      have HW12 := Lib.hid (HW11.out.trans (hb.mono HW11.out.size))
      clear x0 x1 x2 hb HW11
      have x0 := (X0.out.below HW12.out X0.out.lt).cell
      have x1 := (X1.out.below HW12.out X1.out.lt).cell
      have x2 := (X2.out.below HW12.out X2.out.lt).cell
      rcases hd with rfl | ⟨rfl, rfl⟩
      · clear x0 x1 x2 KF KT KS KA
        go_wp2_with fail
        (first | go_ret | go_ret2)
        exact ⟨rfl, HB1.out.trans (HW12.out.mono HB1.out.size)⟩
      · go_wp2_with fail
        refine (KS.out W12 HW12.out).mono ?_
        rintro e W13 ⟨rfl, hb⟩
        have HW13 := Lib.hid (HW12.out.trans (hb.mono HW12.out.size))
        clear x0 x1 x2 hb HW12
        have x0 := (X0.out.below HW13.out X0.out.lt).cell
        have x1 := (X1.out.below HW13.out X1.out.lt).cell
        have x2 := (X2.out.below HW13.out X2.out.lt).cell
        clear x0 x1 x2 KF KT KS KA
        go_wp2_with fail
        (first | go_ret | go_ret2)
        exact ⟨rfl, HB1.out.trans (HW13.out.mono HB1.out.size)⟩
    · go_wp2_with fail
      refine (KF.out W9 HW9.out _ _ _ (.inr (.inr (.inr (.inr (.inr (.inl ⟨rfl, rfl, rfl⟩))))))).mono ?_
      rintro e W10 ⟨rfl, hb⟩
      have HW10 := Lib.hid (HW9.out.trans (hb.mono HW9.out.size))
      clear x0 x1 x2 hb HW9
      have x0 := (X0.out.below HW10.out X0.out.lt).cell
      have x1 := (X1.out.below HW10.out X1.out.lt).cell
      have x2 := (X2.out.below HW10.out X2.out.lt).cell
      go_wp2_with fail
      refine (KA.out W10 HW10.out).mono ?_
      rintro e W11 ⟨rfl, hb⟩
      have HW11 := Lib.hid (HW10.out.trans (hb.mono HW10.out.size))
      clear x0 x1 x2 hb HW10
      have x0 := (X0.out.below HW11.out X0.out.lt).cell
      have x1 := (X1.out.below HW11.out X1.out.lt).cell
      have x2 := (X2.out.below HW11.out X2.out.lt).cell
      go_wp2_with fail
      refine (KF.out W11 HW11.out _ _ _ (.inr (.inr (.inr (.inl ⟨rfl, rfl, rfl⟩))))).mono ?_
      rintro e W12 ⟨rfl, hb⟩
      have HW12 := Lib.hid (HW11.out.trans (hb.mono HW11.out.size))
      clear x0 x1 x2 hb HW11
      have x0 := (X0.out.below HW12.out X0.out.lt).cell
      have x1 := (X1.out.below HW12.out X1.out.lt).cell
      have x2 := (X2.out.below HW12.out X2.out.lt).cell
      go_wp2_with fail
      refine (KF.out W12 HW12.out _ _ _ (.inr (.inr (.inr (.inr (.inr (.inr (⟨rfl, rfl, rfl⟩)))))))).mono ?_
      rintro e W13 ⟨rfl, hb⟩
      have HW13 := Lib.hid (HW12.out.trans (hb.mono HW12.out.size))
      clear x0 x1 x2 hb HW12
      have x0 := (X0.out.below HW13.out X0.out.lt).cell
      have x1 := (X1.out.below HW13.out X1.out.lt).cell
      have x2 := (X2.out.below HW13.out X2.out.lt).cell
      rcases hd with rfl | ⟨rfl, rfl⟩
      · clear x0 x1 x2 KF KT KS KA
        go_wp2_with fail
        (first | go_ret | go_ret2)
        exact ⟨rfl, HB1.out.trans (HW13.out.mono HB1.out.size)⟩
      · go_wp2_with fail
        refine (KS.out W13 HW13.out).mono ?_
        rintro e W14 ⟨rfl, hb⟩
        have HW14 := Lib.hid (HW13.out.trans (hb.mono HW13.out.size))
        clear x0 x1 x2 hb HW13
        have x0 := (X0.out.below HW14.out X0.out.lt).cell
        have x1 := (X1.out.below HW14.out X1.out.lt).cell
        have x2 := (X2.out.below HW14.out X2.out.lt).cell
        clear x0 x1 x2 KF KT KS KA
        go_wp2_with fail
        (first | go_ret | go_ret2)
        exact ⟨rfl, HB1.out.trans (HW14.out.mono HB1.out.size)⟩
end Tm
end Go.Proofs.YtifkjngclkklfaaGreatDoor
