/- Contracts: whether a type may be, by the document. -/
import Derived.Test.YtifkjngclkklfaaGreatDoorMGp
import Derived.Lib.QuietBelow
namespace Go.Proofs.YtifkjngclkklfaaGreatDoor
open Go.RowKit Go.Op
namespace Tm
theorem rname_nm (s : ByteArray) (hs : s.size ≤ 140737488351232) (w : World) : Calls Tryz.prog 42 #[.string s] w fun e w' => e = .returned (.bool (nmB s)) ∧ Below w.heap.size w w' := by
  have h := rname_any s (by omega) w
  rw [← name_same] at h
  exact h

set_option maxHeartbeats 8000000 in
set_option maxRecDepth 100000 in
theorem rright_step (ps : List Ty) (hl : ps.length ≤ 1000001)
    (IH : ∀ p ∈ ps, ∀ (w : World) (P : Nat → Prop) (An : Option Addr) (cn : Nat) (A : Option Addr) (c : Nat), TI w P p An cn A c → Calls Tryz.prog 15 #[tv p An cn A c] w fun e w' => e = .returned (.bool p.right) ∧ Below w.heap.size w w')
    (w : World) (P : Nat → Prop) (k : Int) (ns : List ByteArray) (hnl : ns.length ≤ 1000001) (An : Option Addr) (cn : Nat) (A : Option Addr) (c : Nat) (hN : NV w P ns An cn) (h : TV w P ps A c) (r : Bool) (hr : r = (ownB k ns ps.length && ps.all Ty.right)) :
    Calls Tryz.prog 15 #[.agg #[.int .i64 k, .slice An ns.length cn, .slice A ps.length c]] w fun e w' => e = .returned (.bool r) ∧ Below w.heap.size w w' := by
  rw [own_pre] at hr
  obtain ⟨m, hm⟩ : ∃ m, m = ns.length := ⟨_, rfl⟩
  obtain ⟨n, hn⟩ : ∃ n, n = ps.length := ⟨_, rfl⟩
  have hm1 : m ≤ 1000001 := by omega
  have hn1 : n ≤ 1000001 := by omega
  rw [← hm, ← hn] at hr ⊢
  have HNA := Lib.hid (hN.below (bel1 w (.cells (tarr k An m cn A n c) 25)))
  have HT := Lib.hid (h.below (bel1 w (.cells (tarr k An m cn A n c) 25)))
  have R0 := Lib.hid (RowB.new w 25 (tarr k An m cn A n c))
  have B0 := Lib.hid (bel1 w (.cells (tarr k An m cn A n c) 25))
  have HI := Lib.hid IH
  have HM := Lib.hid hm
  have HN := Lib.hid hn
  have HR := Lib.hid hr
  have rc := R0.out.cell
  clear hN h IH hm hn hr hl hnl
  cases hpre : preB k m n
  case true =>
    have HF : Hid (r = false) := by unfold Hid; rw [HR.out, hpre]; rfl
    clear HR
    unfold preB at hpre
    by_cases k0 : k < 0
    · clear hpre
      go_enter Tryz.func15, Tryz.ntmps15
      go_wp2_with fail
      (first | go_ret | go_ret2)
      exact ⟨by rw [HF.out]; rfl, B0.out⟩
    by_cases k4 : k > 4
    · clear hpre
      go_enter Tryz.func15, Tryz.ntmps15
      go_wp2_with fail
      (first | go_ret | go_ret2)
      exact ⟨by rw [HF.out]; rfl, B0.out⟩
    rw [decide_eq_false (p := k < 0 ∨ k > 4) (by omega), Bool.false_or] at hpre
    rcases (by omega : k = 0 ∨ k = 1 ∨ k = 2 ∨ k = 3 ∨ k = 4) with rfl | rfl | rfl | rfl | rfl
    case inr.inr.inr.inl =>
      have e1 : ((m : Int) != (n : Int)) = true := by simpa using hpre
      clear hpre k0 k4
      go_enter Tryz.func15, Tryz.ntmps15
      go_wp2_with fail
      (first | go_ret | go_ret2)
      exact ⟨by rw [HF.out]; rfl, B0.out⟩
    case inr.inr.inr.inr =>
      by_cases e1 : (m : Int) > 0
      · clear hpre k0 k4
        go_enter Tryz.func15, Tryz.ntmps15
        go_wp2_with fail
        (first | go_ret | go_ret2)
        exact ⟨by rw [HF.out]; rfl, B0.out⟩
      · have e2 : ((n : Int) == 0) = true := by
          rw [decide_eq_false (p := (m : Int) > 0) e1] at hpre
          simpa using hpre
        clear hpre k0 k4
        obtain rfl : m = 0 := by omega
        obtain rfl : n = 0 := by simpa using e2
        go_enter Tryz.func15, Tryz.ntmps15
        go_wp2_with fail
        (first | go_ret | go_ret2)
        exact ⟨by rw [HF.out]; rfl, B0.out⟩
    all_goals
      by_cases e1 : (m : Int) > 0
      · clear hpre k0 k4
        go_enter Tryz.func15, Tryz.ntmps15
        go_wp2_with fail
        (first | go_ret | go_ret2)
        exact ⟨by rw [HF.out]; rfl, B0.out⟩
      · have e2 : (n : Int) > 0 := by
          rw [decide_eq_false (p := (m : Int) > 0) e1] at hpre
          simp at hpre; omega
        clear hpre k0 k4
        obtain rfl : m = 0 := by omega
        go_enter Tryz.func15, Tryz.ntmps15
        go_wp2_with fail
        (first | go_ret | go_ret2)
        exact ⟨by rw [HF.out]; rfl, B0.out⟩
  case false =>
    have HRa : Hid (r = ((ns.all nmB && riseB ns) && ps.all Ty.right)) := by unfold Hid; rw [HR.out, hpre]; rfl
    clear HR
    unfold preB at hpre
    obtain ⟨W, hW⟩ : ∃ W, W = w.alloc (.cells (tarr k An m cn A n c) 25) := ⟨_, rfl⟩
    have k0 : ¬ k < 0 := fun e => by rw [decide_eq_true (p := k < 0 ∨ k > 4) (.inl e)] at hpre; simp at hpre
    have k4 : ¬ k > 4 := fun e => by rw [decide_eq_true (p := k < 0 ∨ k > 4) (.inr e)] at hpre; simp at hpre
    have HFacts : Hid ((k ≤ 2 ∧ ¬ (m : Int) > 0 ∧ ¬ (n : Int) > 0) ∨ (k = 3 ∧ ((m : Int) != (n : Int)) = false) ∨ (k = 4 ∧ ¬ (m : Int) > 0 ∧ ((n : Int) == 0) = false)) := by
      unfold Hid
      by_cases k2 : k ≤ 2
      · left
        rw [decide_eq_false (p := k < 0 ∨ k > 4) (by omega), decide_eq_true k2] at hpre
        simp only [Bool.false_or, Bool.true_and, Bool.or_eq_false_iff, decide_eq_false_iff_not] at hpre
        exact ⟨k2, hpre.1.1.1, hpre.1.1.2⟩
      · by_cases k3 : k = 3
        · subst k3
          right; left
          simpa using hpre
        · obtain rfl : k = 4 := by omega
          right; right
          simp only [Bool.or_eq_false_iff, Bool.and_eq_false_iff] at hpre
          obtain ⟨_, h⟩ := hpre
          rcases h with h | h
          · cases h
          · exact ⟨rfl, of_decide_eq_false h.1, h.2⟩
    clear hpre
    rcases (by omega : k = 0 ∨ k = 1 ∨ k = 2 ∨ k = 3 ∨ k = 4) with rfl | rfl | rfl | rfl | rfl
    case inr.inr.inr.inl =>
      have e1 : ((m : Int) != (n : Int)) = false := by
        rcases HFacts.out with h | h | h
        · omega
        · exact h.2
        · omega
      clear HFacts k0 k4
      go_enter Tryz.func15, Tryz.ntmps15
      go_wp2_with fail
      rw [← hW] at HNA HT R0 B0 rc ⊢
      clear hW rc
      go_loopg [3] (m + 1) (fun kx s3 wr => ∃ i : Nat, s3 = .int .i64 i ∧ m - i ≤ kx ∧ i ≤ m ∧ Hid (Lab ns i) ∧ Hid (Below W.heap.size W wr))
      case atStart => exact ⟨0, rfl, by omega, by omega, Lab.zero ns, Below.refl _ _⟩
      case round =>
        obtain ⟨i, rfl, hkx, hin, HQ, HB⟩ := hrel
        have X1 := Lib.hid (R0.out.below HB.out R0.out.lt)
        have rc1 := X1.out.cell
        by_cases hi : i < m
        · have hil : (i : Int) < (m : Int) := by omega
          obtain ⟨s, e⟩ := get_lt (l := ns) (i := i) (by rw [← HM.out]; exact hi)
          obtain ⟨g, o, hA, _, hg, y0, hz⟩ := (HNA.out.below HB.out).nth e
          have HMe := Lib.hid (List.mem_of_getElem? e)
          obtain ⟨j, hj⟩ : ∃ j, j = i + 1 := ⟨_, rfl⟩
          have C : Hid (∀ w', Calls Tryz.prog 42 #[.string s] w' fun e w2 => e = .returned (.bool (nmB s)) ∧ Below w'.heap.size w' w2) := fun w' => rname_nm s hz w'
          obtain ⟨b, hb⟩ : ∃ b, b = nmB s := ⟨_, rfl⟩
          have HBB := Lib.hid hb
          rw [← hb] at C
          have zr := fun d os => cell_regrown (X1.out.cell 1) d os
          have z0 := fun d os => cell_regrown y0 d os
          clear hb
          cases b
          · clear e
            subst hA
            go_wp2_with fail
            refine wp_region_quiet_below (by kernel_rfl) (by kernel_rfl) ?_
            repeat (go_big_quiet_step (first
              | (go_at_call 42; exact Calls.regrown_of (C.out _))))
            refine wpQuiet_nil ?_
            intro _ hw'
            obtain ⟨⟨dq, osq⟩, hw''⟩ := hw'
            subst hw''
            have HX := Lib.hid (HB.out.trans ((below_regrown wr dq osq).mono HB.out.size))
            go_wp2_with fail
            (first | go_ret | go_ret2)
            exact ⟨by rw [HRa.out, lab_no HMe.out HBB.out.symm]; rfl, B0.out.trans (HX.out.mono B0.out.size)⟩
          · cases i with
            | zero =>
              have HQ2 := Lib.hid (Lab.first e HBB.out.symm)
              rw [Nat.add_zero] at y0
              have z0 := fun d os => cell_regrown y0 d os
              clear e
              subst hA
              go_wp2_with fail
              refine wp_region_quiet_below (by kernel_rfl) (by kernel_rfl) ?_
              repeat (go_big_quiet_step (first
                | (go_at_call 42; exact Calls.regrown_of (C.out _))))
              refine wpQuiet_nil ?_
              intro _ hw'
              obtain ⟨⟨dq, osq⟩, hw''⟩ := hw'
              subst hw''
              have HX := Lib.hid (HB.out.trans ((below_regrown wr dq osq).mono HB.out.size))
              generalize Go.Sort.grow (redrawn wr dq) osq = WX at *
              clear zr z0 rc1 y0
              go_wp2_with fail
              go_roundg (m - j)
              case measure => omega
              case rel => exact ⟨j, by rw [hj]; go_num, by omega, by omega, by rw [hj]; exact HQ2.out, HX.out⟩
            | succ i =>
              obtain ⟨p, e2⟩ := get_lt (l := ns) (i := i) (by rw [← HM.out]; omega)
              obtain ⟨g', o', hA', _, hg', y1, _⟩ := (HNA.out.below HB.out).nth e2
              rw [hA] at hA'
              injection hA' with hA'
              injection hA' with h1 h2
              subst h1 h2
              have z1 := fun d os => cell_regrown y1 d os
              obtain ⟨x, hx⟩ : ∃ x, x = lt p s := ⟨_, rfl⟩
              have hx2 : bytesLess p.toList s.toList = x := hx.symm
              have HX0 := Lib.hid hx
              have HE := Lib.hid e
              have HE2 := Lib.hid e2
              obtain ⟨u, hu⟩ : ∃ u : Nat, u = i + 1 := ⟨_, rfl⟩
              have q1 : IntKind.i64.wrap ((u : Int) - 1) = (i : Int) := by rw [IntKind.wrap_i64]; omega
              have q2 : (u : Int) > 0 := by omega
              have q3 : (i : Int) < (m : Int) := by omega
              have q4 : (0 : Int) ≤ (i : Int) := by omega
              have q5 : decide ((u : Int) > 0) = true := decide_eq_true q2
              have q6 : decide (0 < (u : Int)) = true := decide_eq_true q2
              have q7 : decide (0 < u) = true := decide_eq_true (by omega)
              have HU := Lib.hid hu
              rw [← hu] at hi hil y0 hkx hin hj ⊢
              rw [← hu] at z0
              clear e e2 hu hx
              subst hA
              cases x
              · have hle := less_not s p
                rw [hx2] at hle
                rcases (show bytesLess s.toList p.toList = true ∨ (bytesLess s.toList p.toList = false ∧ (s.toList == p.toList) = true) by
                  cases f1 : bytesLess s.toList p.toList
                  · rw [f1] at hle; exact .inr ⟨rfl, by simpa using hle⟩
                  · exact .inl rfl) with f1 | ⟨f1, f2⟩
                all_goals
                  clear hle
                  go_wp2_with fail
                  refine wp_region_quiet_below (by kernel_rfl) (by kernel_rfl) ?_
                  repeat (go_big_quiet_step (first
                    | (go_at_call 42; exact Calls.regrown_of (C.out _))))
                  refine wpQuiet_nil ?_
                  intro _ hw'
                  obtain ⟨⟨dq, osq⟩, hw''⟩ := hw'
                  subst hw''
                  have HX := Lib.hid (HB.out.trans ((below_regrown wr dq osq).mono HB.out.size))
                  go_wp2_with fail
                  (first | go_ret | go_ret2)
                  exact ⟨by rw [HRa.out, lab_fall HE2.out HE.out HX0.out.symm]; rfl, B0.out.trans (HX.out.mono B0.out.size)⟩
              · have HQ2 := Lib.hid (HQ.out.next HE2.out HE.out HBB.out.symm HX0.out.symm)
                have f1 : bytesLess s.toList p.toList = false := by have := lt_asymm (HX0.out.symm : lt p s = true); exact this
                have f2 : (s.toList == p.toList) = false := by rw [beq_ba]; exact decide_eq_false fun e => lt_ne (HX0.out.symm : lt p s = true) e.symm
                go_wp2_with fail
                refine wp_region_quiet_below (by kernel_rfl) (by kernel_rfl) ?_
                repeat (go_big_quiet_step (first
                  | (go_at_call 42; exact Calls.regrown_of (C.out _))))
                refine wpQuiet_nil ?_
                intro _ hw'
                obtain ⟨⟨dq, osq⟩, hw''⟩ := hw'
                subst hw''
                have HX := Lib.hid (HB.out.trans ((below_regrown wr dq osq).mono HB.out.size))
                generalize Go.Sort.grow (redrawn wr dq) osq = WX at *
                clear zr z0 z1 rc1 y0 y1
                go_wp2_with fail
                go_roundg (m - j)
                case measure => omega
                case rel => exact ⟨j, by rw [hj]; go_num, by omega, by omega, by rw [hj, HU.out]; exact HQ2.out, HX.out⟩
        · have hil : ¬ (i : Int) < (m : Int) := by omega
          have HRb : Hid (r = ps.all Ty.right) := by
            unfold Hid
            rw [HRa.out, HQ.out.all (by rw [← HM.out]; omega), Bool.true_and]
          have HTx := Lib.hid (HT.out.below HB.out)
          have HBx := Lib.hid (B0.out.trans (HB.out.mono B0.out.size))
          clear hi HQ HB HNA HRa
          go_wp2_with fail
          clear rc1
          obtain ⟨V, rfl⟩ : ∃ V, V = wr := ⟨_, rfl⟩
          go_loopg [4] (n + 1) (fun kx s4 wr => ∃ j : Nat, s4 = .int .i64 j ∧ n - j ≤ kx ∧ j ≤ n ∧ Hid ((ps.take j).all Ty.right = true) ∧ Hid (Below V.heap.size V wr))
          case atStart => exact ⟨0, rfl, by omega, by omega, by simp [Hid], Below.refl _ _⟩
          case round =>
            obtain ⟨j, rfl, hkx2, hjn, HQ, HB⟩ := hrel
            have X2 := Lib.hid (X1.out.below HB.out X1.out.lt)
            have rc2 := X2.out.cell
            by_cases hj : j < n
            · have hjl : (j : Int) < (n : Int) := by omega
              obtain ⟨t, e⟩ := get_lt (l := ps) (i := j) (by rw [← HN.out]; exact hj)
              obtain ⟨g, o, An2, cn2, A2, c2, hA, hP, hg, hti, z0, z1, z2⟩ := (HTx.out.below HB.out).nth e
              have HMe := Lib.hid (List.mem_of_getElem? e)
              have HE := Lib.hid e
              have CC := Lib.hid (HI.out t HMe.out wr P An2 cn2 A2 c2 hti)
              obtain ⟨b, hb⟩ : ∃ b, b = t.right := ⟨_, rfl⟩
              have HBB := Lib.hid hb
              rw [← hb] at CC
              subst hA
              obtain ⟨x, hx⟩ : ∃ x, x = j + 1 := ⟨_, rfl⟩
              obtain ⟨kt, nt, pt⟩ := t
              simp only [kind_mk, names_mk, parts_mk] at z0 z1 z2 CC
              clear e hti hb
              go_wp2_with fail
              refine CC.out.mono ?_
              rintro e w2 ⟨rfl, h2⟩
              have HB2 := Lib.hid (HB.out.trans (h2.mono HB.out.size))
              clear h2 CC z0 z1 z2 rc2
              cases b
              · go_wp2_with fail
                (first | go_ret | go_ret2)
                exact ⟨by rw [HRb.out, all_no HMe.out HBB.out.symm]; rfl, HBx.out.trans (HB2.out.mono HBx.out.size)⟩
              · have HQ2 := Lib.hid (all_take HE.out HQ.out HBB.out.symm)
                go_wp2_with fail
                go_roundg (n - x)
                case measure => omega
                case rel => exact ⟨x, by rw [hx]; go_num, by omega, by omega, by rw [hx]; exact HQ2.out, HB2.out⟩
            · have hjl : ¬ (j : Int) < (n : Int) := by omega
              have HF : Hid (r = true) := by
                unfold Hid
                have h1 := HQ.out
                rw [List.take_of_length_le (by rw [← HN.out]; omega)] at h1
                rw [HRb.out, h1]
              go_wp2_with fail
              (first | go_ret | go_ret2)
              exact ⟨by rw [HF.out]; rfl, HBx.out.trans (HB.out.mono HBx.out.size)⟩
    case inr.inr.inr.inr =>
      have e1 : ¬ (m : Int) > 0 ∧ ((n : Int) == 0) = false := by
        rcases HFacts.out with h | h | h
        · omega
        · omega
        · exact h.2
      obtain ⟨e1, e2⟩ := e1
      obtain rfl : m = 0 := by omega
      clear HFacts k0 k4
      go_enter Tryz.func15, Tryz.ntmps15
      go_wp2_with fail
      rw [← hW] at HNA HT R0 B0 rc ⊢
      clear hW rc
      go_loopg [3] 1 (fun kx s3 wr => s3 = .int .i64 0 ∧ 1 - 0 ≤ kx + 1 ∧ Hid (W = wr))
      case atStart => exact ⟨rfl, by omega, rfl⟩
      case round =>
        obtain ⟨rfl, _, HW⟩ := hrel
        obtain rfl := HW.out
        · have X1 := R0
          have rc1 := X1.out.cell
          have HRb : Hid (r = ps.all Ty.right) := by
            unfold Hid
            rw [HRa.out, (Lab.zero ns).all HM.out, Bool.true_and]
          have HTx := HT
          have HBx := B0
          clear HNA HRa
          go_wp2_with fail
          clear rc1
          obtain ⟨V, rfl⟩ : ∃ V, V = W := ⟨_, rfl⟩
          go_loopg [4] (n + 1) (fun kx s4 wr => ∃ j : Nat, s4 = .int .i64 j ∧ n - j ≤ kx ∧ j ≤ n ∧ Hid ((ps.take j).all Ty.right = true) ∧ Hid (Below V.heap.size V wr))
          case atStart => exact ⟨0, rfl, by omega, by omega, by simp [Hid], Below.refl _ _⟩
          case round =>
            obtain ⟨j, rfl, hkx2, hjn, HQ, HB⟩ := hrel
            have X2 := Lib.hid (X1.out.below HB.out X1.out.lt)
            have rc2 := X2.out.cell
            by_cases hj : j < n
            · have hjl : (j : Int) < (n : Int) := by omega
              obtain ⟨t, e⟩ := get_lt (l := ps) (i := j) (by rw [← HN.out]; exact hj)
              obtain ⟨g, o, An2, cn2, A2, c2, hA, hP, hg, hti, z0, z1, z2⟩ := (HTx.out.below HB.out).nth e
              have HMe := Lib.hid (List.mem_of_getElem? e)
              have HE := Lib.hid e
              have CC := Lib.hid (HI.out t HMe.out wr P An2 cn2 A2 c2 hti)
              obtain ⟨b, hb⟩ : ∃ b, b = t.right := ⟨_, rfl⟩
              have HBB := Lib.hid hb
              rw [← hb] at CC
              subst hA
              obtain ⟨x, hx⟩ : ∃ x, x = j + 1 := ⟨_, rfl⟩
              obtain ⟨kt, nt, pt⟩ := t
              simp only [kind_mk, names_mk, parts_mk] at z0 z1 z2 CC
              clear e hti hb
              go_wp2_with fail
              refine CC.out.mono ?_
              rintro e w2 ⟨rfl, h2⟩
              have HB2 := Lib.hid (HB.out.trans (h2.mono HB.out.size))
              clear h2 CC z0 z1 z2 rc2
              cases b
              · go_wp2_with fail
                (first | go_ret | go_ret2)
                exact ⟨by rw [HRb.out, all_no HMe.out HBB.out.symm]; rfl, HBx.out.trans (HB2.out.mono HBx.out.size)⟩
              · have HQ2 := Lib.hid (all_take HE.out HQ.out HBB.out.symm)
                go_wp2_with fail
                go_roundg (n - x)
                case measure => omega
                case rel => exact ⟨x, by rw [hx]; go_num, by omega, by omega, by rw [hx]; exact HQ2.out, HB2.out⟩
            · have hjl : ¬ (j : Int) < (n : Int) := by omega
              have HF : Hid (r = true) := by
                unfold Hid
                have h1 := HQ.out
                rw [List.take_of_length_le (by rw [← HN.out]; omega)] at h1
                rw [HRb.out, h1]
              go_wp2_with fail
              (first | go_ret | go_ret2)
              exact ⟨by rw [HF.out]; rfl, HBx.out.trans (HB.out.mono HBx.out.size)⟩
    all_goals
      have e1 : ¬ (m : Int) > 0 ∧ ¬ (n : Int) > 0 := by
        rcases HFacts.out with h | h | h
        · exact h.2
        · omega
        · omega
      obtain ⟨e1, e2⟩ := e1
      obtain rfl : m = 0 := by omega
      obtain rfl : n = 0 := by omega
      clear HFacts k0 k4
      go_enter Tryz.func15, Tryz.ntmps15
      go_wp2_with fail
      rw [← hW] at HNA HT R0 B0 rc ⊢
      clear hW rc
      go_loopg [3] 1 (fun kx s3 wr => s3 = .int .i64 0 ∧ 1 - 0 ≤ kx + 1 ∧ Hid (W = wr))
      case atStart => exact ⟨rfl, by omega, rfl⟩
      case round =>
        obtain ⟨rfl, _, HW⟩ := hrel
        obtain rfl := HW.out
        · have X1 := R0
          have rc1 := X1.out.cell
          have HRb : Hid (r = ps.all Ty.right) := by
            unfold Hid
            rw [HRa.out, (Lab.zero ns).all HM.out, Bool.true_and]
          have HTx := HT
          have HBx := B0
          clear HNA HRa
          go_wp2_with fail
          clear rc1
          obtain ⟨V, rfl⟩ : ∃ V, V = W := ⟨_, rfl⟩
          go_loopg [4] 1 (fun kx s4 wr => s4 = .int .i64 0 ∧ 1 - 0 ≤ kx + 1 ∧ Hid (V = wr))
          case atStart => exact ⟨rfl, by omega, rfl⟩
          case round =>
            obtain ⟨rfl, _, HV⟩ := hrel
            obtain rfl := HV.out
            have rc2 := X1.out.cell
            have HF : Hid (r = true) := by
              unfold Hid
              rw [HRb.out, List.length_eq_zero_iff.1 HN.out.symm]
              rfl
            go_wp2_with fail
            (first | go_ret | go_ret2)
            exact ⟨by rw [HF.out]; rfl, HBx.out⟩
theorem rright_any : ∀ t : Ty, t.cnt ≤ 1000001 → ∀ (w : World) (P : Nat → Prop) (An : Option Addr) (cn : Nat) (A : Option Addr) (c : Nat), TI w P t An cn A c → Calls Tryz.prog 15 #[tv t An cn A c] w fun e w' => e = .returned (.bool t.right) ∧ Below w.heap.size w w' := by
  refine Ty.ind fun k ns ps ih hc w P An cn A c h => ?_
  rw [Ty.cnt] at hc
  exact rright_step ps (by have := cntL_len ps; omega) (fun p hp => ih p hp (by have := cnt_mem hp; omega)) w P k ns (by omega) An cn A c (TI_iff.1 h).1 (TI_iff.1 h).2 _ (by rw [Ty.right, rightL_all])
end Tm
end Go.Proofs.YtifkjngclkklfaaGreatDoor
