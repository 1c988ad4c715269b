/- The law RelateFlows, walked. -/
import Derived.Test.YtifkjngclkklfaaGreatDoorMGr
import Derived.Test.YtifkjngclkklfaaGreatDoorMGs
import Derived.BigQuiet
import Derived.Lib.QuietBelow
namespace Go.Proofs.YtifkjngclkklfaaGreatDoor
open Go.RowKit Go.Op
namespace Tm
/-- What stays where the machine's memory grows. -/
theorem quiet_out {c : Nat} {xs : Array Value} {w : World} {b : Value} (h : Calls Tryz.prog c xs w fun e w' => e = .returned b ∧ Below w.heap.size w w') : Calls Tryz.prog c xs w fun e w' => e = .returned b ∧ Below w.heap.size w w' := h
set_option maxHeartbeats 8000000 in
set_option maxRecDepth 100000 in
theorem flows_walk (w : World) (a b : Ty) (P P' : Nat → Prop) (An : Option Addr) (cn : Nat) (A : Option Addr) (c : Nat) (Bn : Option Addr) (dn : Nat) (B : Option Addr) (d : Nat) (hA : TI w P a An cn A c) (hB : TI w P' b Bn dn B d) (hT : Tabs w) (hE : Errs w) :
    Calls Tryz.prog 7 #[tv a An cn A c, tv b Bn dn B d] w fun e w' => e = .returned (.bool true) ∧ Below w.heap.size w w' := by
  have b1 := bel1 w (.cells (tcc a An cn A c) 25)
  have b2 := bel1 (w.alloc (.cells (tcc a An cn A c) 25)) (.cells (tcc b Bn dn B d) 25)
  have b12 := b1.trans (b2.mono b1.size)
  have R1 := Lib.hid ((RowB.new w 25 (tcc a An cn A c)).alloc (.cells (tcc b Bn dn B d) 25))
  have R2 : Hid (RowB ((w.alloc (.cells (tcc a An cn A c) 25)).alloc (.cells (tcc b Bn dn B d) 25)) (w.heap.size + 1) 25 (tcc b Bn dn B d)) := by
    have := RowB.new (w.alloc (.cells (tcc a An cn A c) 25)) 25 (tcc b Bn dn B d)
    have h2 : (w.alloc (.cells (tcc a An cn A c) 25)).heap.size = w.heap.size + 1 := by simp
    rw [h2] at this
    exact this
  have IA := Lib.hid (hA.below b12)
  have IB := Lib.hid (hB.below b12)
  have HB0 := Lib.hid b12
  have HT := Lib.hid (Tabs.step hT b12)
  have HE := Lib.hid (hE.below b12)
  obtain ⟨W0, hW0⟩ : ∃ W0, W0 = (w.alloc (.cells (tcc a An cn A c) 25)).alloc (.cells (tcc b Bn dn B d) 25) := ⟨_, rfl⟩
  have r1 := R1.out.cell
  have r2 := R2.out.cell
  rw [← hW0] at IA IB HB0 HT HE R1 R2
  have b3 : Hid (Below W0.heap.size W0 (W0.alloc (.cells #[Value.int .i64 a.kind, .slice An a.names.length cn, .slice A a.parts.length c, .int .i64 b.kind, .slice Bn b.names.length dn, .slice B b.parts.length d] 25))) := bel1 W0 _
  have HV : Hid (TV (W0.alloc (.cells #[Value.int .i64 a.kind, .slice An a.names.length cn, .slice A a.parts.length c, .int .i64 b.kind, .slice Bn b.names.length dn, .slice B b.parts.length d] 25)) (fun g => (P g ∨ P' g) ∨ g = W0.heap.size) [a, b] (some ⟨W0.heap.size, 0, none⟩) 2) := by
    refine TV.new (RowB.new W0 25 _) ?_ (.inr rfl)
    have t1 := (IA.out.below b3.out).mono (Q := fun g => (P g ∨ P' g) ∨ g = W0.heap.size) fun g h => .inl (.inl h)
    have t2 := (IB.out.below b3.out).mono (Q := fun g => (P g ∨ P' g) ∨ g = W0.heap.size) fun g h => .inl (.inr h)
    exact TL.app _ _ (TL.one t1) (TL.one t2)
  have CF := Lib.hid (fits10_any _ [a, b] _ _ _ HV.out (by simp))
  clear b1 b2 b12 hA hB hT hE
  have hsz : W0.heap.size = w.heap.size + 1 + 1 := by rw [hW0]; simp
  have hcf := CF.out
  simp only [List.length_cons, List.length_nil, hsz] at hcf
  have CF2 := Lib.hid hcf
  obtain ⟨ft, hft⟩ : ∃ ft, ft = [a, b].all fitB := ⟨_, rfl⟩
  rw [← hft] at CF2
  have HFT := Lib.hid hft
  clear hcf CF hsz hft
  go_enter Tryz.func7, Tryz.ntmps7
  go_wp2_with fail
  rw [← hW0]
  refine CF2.out.mono ?_
  rintro e w1 ⟨rfl, hb1⟩
  have b4 := b3.out.trans (hb1.mono b3.out.size)
  have HB1 := Lib.hid (HB0.out.trans (b4.mono HB0.out.size))
  have X1 := Lib.hid (R1.out.below b4 R1.out.lt)
  have X2 := Lib.hid (R2.out.below b4 R2.out.lt)
  have JA := Lib.hid (IA.out.below b4)
  have JB := Lib.hid (IB.out.below b4)
  have HT1 := Lib.hid (Tabs.step HT.out b4)
  have HE1 := Lib.hid (HE.out.below b4)
  have x1 := X1.out.cell
  have x2 := X2.out.cell
  clear hW0 b4 hb1 CF2 b3 HV IA IB HT HE R1 R2 r1 r2 HB0
  cases ft with
  | false =>
    have CA := Lib.hid (awake10_any w1 HT1.out HE1.out)
    go_wp2_with fail
    refine CA.out.mono ?_
    rintro e w2 ⟨rfl, hb2⟩
    have HB2 := Lib.hid (HB1.out.trans (hb2.mono HB1.out.size))
    clear hb2 CA
    go_wp2_with fail
    (first | go_ret | go_ret2)
    exact ⟨rfl, HB2.out⟩
  | true =>
    have hfit := HFT.out.symm
    simp only [List.all_cons, List.all_nil, Bool.and_true, Bool.and_eq_true, fitB] at hfit
    obtain ⟨⟨la, ra⟩, lb, rb⟩ := hfit
    have ca := (light_cnt la).1
    have cb := (light_cnt lb).1
    have hbd : Hid (∀ (dd : Nat) (os), Below w1.heap.size w1 (Go.Sort.grow (redrawn w1 dd) os)) := fun dd os => below_regrown w1 dd os
    have KA : Hid (∀ w', Below w1.heap.size w1 w' → Calls Tryz.prog 31 #[] w' fun e w2 => e = .returned (.bool true) ∧ Below w'.heap.size w' w2) := fun w' hb => awake10_any w' (Tabs.step HT1.out hb) (HE1.out.below hb)
    have KF : Hid (∀ w', Below w1.heap.size w1 w' → Calls Tryz.prog 32 #[tv a An cn A c, tv b Bn dn B d] w' fun e w2 => e = .returned (.bool (flows a b)) ∧ Below w'.heap.size w' w2) := fun w' hb => pflows_any ra rb (by omega) (by omega) w' _ _ _ _ _ _ _ _ _ _ (JA.out.below hb) (JB.out.below hb)
    have KR : Hid (∀ w', Below w1.heap.size w1 w' → Calls Tryz.prog 33 #[tv a An cn A c, tv b Bn dn B d] w' fun e w2 => e = .returned (.bool (flows a b)) ∧ Below w'.heap.size w' w2) := fun w' hb => rflows_any ra rb (by omega) (by omega) w' _ _ _ _ _ _ _ _ _ _ (JA.out.below hb) (JB.out.below hb)
    have KN : Hid (∀ w', Below w1.heap.size w1 w' → Calls Tryz.prog 34 #[tv a An cn A c, tv b Bn dn B d] w' fun e w2 => e = .returned (.bool (decide (b.kind ≠ 0) && !(a.same b))) ∧ Below w'.heap.size w' w2) := fun w' hb => needs_any (by omega) (by omega) w' _ _ _ _ _ _ _ _ _ _ (JA.out.below hb) (JB.out.below hb)
    have KS : Hid (∀ w', Below w1.heap.size w1 w' → Calls Tryz.prog 21 #[tv a An cn A c, tv b Bn dn B d] w' fun e w2 => e = .returned (.bool (a.same b)) ∧ Below w'.heap.size w' w2) := fun w' hb => rsame_any a (by omega) b (by omega) w' _ _ _ _ _ _ _ _ _ _ (JA.out.below hb) (JB.out.below hb)
    obtain ⟨fl, hfl⟩ : ∃ fl, fl = flows a b := ⟨_, rfl⟩
    obtain ⟨sm, hsm⟩ : ∃ sm, sm = a.same b := ⟨_, rfl⟩
    obtain ⟨nd, hnd⟩ : ∃ nd, nd = (decide (b.kind ≠ 0) && !(a.same b)) := ⟨_, rfl⟩
    have hn1 : b.kind = 0 → nd = false := fun h => by rw [hnd]; simp [h]
    have hn2 : ¬ b.kind = 0 → nd = !sm := fun h => by rw [hnd, hsm]; simp [h]
    rw [← hfl] at KF KR
    rw [← hnd] at KN
    rw [← hsm] at KS
    obtain ⟨ka, na, pa⟩ := a
    obtain ⟨kb, nb, pb⟩ := b
    simp only [tcc, kind_mk, names_mk, parts_mk] at x1 x2 KF KR KN KS hn1 hn2
    have p0 := fun dd os => cell_regrown (x1 0) dd os
    have p1 := fun dd os => cell_regrown (x1 1) dd os
    have p2 := fun dd os => cell_regrown (x1 2) dd os
    have q0 := fun dd os => cell_regrown (x2 0) dd os
    have q1 := fun dd os => cell_regrown (x2 1) dd os
    have q2 := fun dd os => cell_regrown (x2 2) dd os
    clear hnd hfl hsm la ra lb rb ca cb HFT JA JB HT1 HE1 X1 X2 x1 x2
    by_cases hk0 : kb = 0
    · subst hk0
      obtain rfl := hn1 rfl
      clear hn1 hn2
      cases fl <;> cases sm
      all_goals
        go_wp2_with fail
        refine wp_region_quiet_below (by kernel_rfl) (by kernel_rfl) ?_
        repeat (go_big_quiet_step (first
          | (go_at_call 31; exact Calls.regrown_of (KA.out _ (hbd.out _ _)))
          | (go_at_call 32; exact Calls.regrown_of (KF.out _ (hbd.out _ _)))
          | (go_at_call 33; exact Calls.regrown_of (KR.out _ (hbd.out _ _)))
          | (go_at_call 34; exact Calls.regrown_of (KN.out _ (hbd.out _ _)))
          | (go_at_call 21; exact Calls.regrown_of (KS.out _ (hbd.out _ _)))))
        refine wpQuiet_nil ?_
        intro _ hw'
        obtain ⟨⟨dq, osq⟩, hw''⟩ := hw'
        subst hw''
        have HX := Lib.hid (HB1.out.trans ((below_regrown w1 dq osq).mono HB1.out.size))
        generalize Go.Sort.grow (redrawn w1 dq) osq = WX at *
        clear KA KF KR KN KS hbd p0 p1 p2 q0 q1 q2
        go_wp2_with fail
        (first | go_ret | go_ret2)
        exact ⟨rfl, HX.out⟩
    · obtain rfl := hn2 hk0
      have hk1 : (kb == 0) = false := by simpa using hk0
      have hk2 : (kb != 0) = true := by simpa using hk0
      clear hn1 hn2
      cases fl <;> cases sm
      all_goals
        go_wp2_with fail
        refine wp_region_quiet_below (by kernel_rfl) (by kernel_rfl) ?_
        repeat (go_big_quiet_step (first
          | (go_at_call 31; exact Calls.regrown_of (KA.out _ (hbd.out _ _)))
          | (go_at_call 32; exact Calls.regrown_of (KF.out _ (hbd.out _ _)))
          | (go_at_call 33; exact Calls.regrown_of (KR.out _ (hbd.out _ _)))
          | (go_at_call 34; exact Calls.regrown_of (KN.out _ (hbd.out _ _)))
          | (go_at_call 21; exact Calls.regrown_of (KS.out _ (hbd.out _ _)))))
        refine wpQuiet_nil ?_
        intro _ hw'
        obtain ⟨⟨dq, osq⟩, hw''⟩ := hw'
        subst hw''
        have HX := Lib.hid (HB1.out.trans ((below_regrown w1 dq osq).mono HB1.out.size))
        generalize Go.Sort.grow (redrawn w1 dq) osq = WX at *
        clear KA KF KR KN KS hbd p0 p1 p2 q0 q1 q2
        go_wp2_with fail
        (first | go_ret | go_ret2)
        exact ⟨rfl, HX.out⟩
end Tm
end Go.Proofs.YtifkjngclkklfaaGreatDoor
