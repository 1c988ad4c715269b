/- Contracts: which types go where, by the document. -/
import Derived.Test.YtifkjngclkklfaaGreatDoorMGp
import Derived.Lib.QuietBelow
import Derived.Test.YtifkjngclkklfaaGreatDoorMGk
namespace Go.Proofs.YtifkjngclkklfaaGreatDoor
open Go.RowKit Go.Op
namespace Tm
theorem lk_take_ne : ∀ {an : List ByteArray} {ap : List Ty} {k : Nat} {y x : ByteArray}, an[k]? = some y → y ≠ x → lk (an.take (k + 1)) (ap.take (k + 1)) x = lk (an.take k) (ap.take k) x
  | [], _, k, y, x, h, _ => by simp at h
  | a :: l, [], k, y, x, _, _ => by cases k <;> simp [lk]
  | a :: l, p :: ps, 0, y, x, h, hy => by
    obtain rfl : a = y := by simpa using h
    simp [lk, hy]
  | a :: l, p :: ps, k + 1, y, x, h, hy => by
    rw [List.take_succ_cons, List.take_succ_cons, List.take_succ_cons, List.take_succ_cons, lk, lk, lk_take_ne (k := k) (by simpa using h) hy]
theorem lk_take_no {an : List ByteArray} {ap : List Ty} {k : Nat} {x : ByteArray} (hn : an.Nodup) (h : an[k]? = some x) : lk (an.take k) (ap.take k) x = none := by
  refine lk_none fun hm => ?_
  obtain ⟨i, hi, e⟩ := List.getElem_of_mem hm
  obtain ⟨hk, e2⟩ := List.getElem?_eq_some_iff.1 h
  simp only [List.length_take] at hi
  simp only [List.getElem_take] at e
  have := (List.getElem_inj hn).1 (e.trans e2.symm)
  omega
theorem lk_take_eq {an : List ByteArray} {ap : List Ty} {k : Nat} {x : ByteArray} {p : Ty} (hn : an.Nodup) (h : an[k]? = some x) (h' : ap[k]? = some p) : lk (an.take (k + 1)) (ap.take (k + 1)) x = some p := by
  obtain ⟨hk, e2⟩ := List.getElem?_eq_some_iff.1 h
  obtain ⟨hk', e3⟩ := List.getElem?_eq_some_iff.1 h'
  have := lk_at (ns := an.take (k + 1)) (ps := ap.take (k + 1)) (hn.sublist (List.take_sublist _ _)) (i := k) (by simp; omega) (by simp; omega)
  simpa [e2, e3] using this
/-- What has been found among the first names. -/
def fnd (an : List ByteArray) (ap : List Ty) (x : ByteArray) (q : Ty) (k : Nat) : Bool := match lk (an.take k) (ap.take k) x with
  | some p => flows p q
  | none => false
theorem fnd_zero (an : List ByteArray) (ap : List Ty) (x : ByteArray) (q : Ty) : fnd an ap x q 0 = false := by simp [fnd, lk]
theorem fnd_ne {an : List ByteArray} {ap : List Ty} {x y : ByteArray} {q : Ty} {k : Nat} (h : an[k]? = some y) (hy : y ≠ x) : fnd an ap x q (k + 1) = fnd an ap x q k := by
  unfold fnd; rw [lk_take_ne h hy]
theorem fnd_eq {an : List ByteArray} {ap : List Ty} {x : ByteArray} {q p : Ty} {k : Nat} (hn : an.Nodup) (h : an[k]? = some x) (h' : ap[k]? = some p) : fnd an ap x q (k + 1) = flows p q ∧ fnd an ap x q k = false := by
  unfold fnd; rw [lk_take_eq hn h h', lk_take_no hn h]; exact ⟨rfl, rfl⟩
theorem fnd_all {an : List ByteArray} {ap : List Ty} {x : ByteArray} {q : Ty} {k : Nat} (h1 : k = an.length) (h2 : k = ap.length) : fnd an ap x q k = match lk an ap x with | some p => flows p q | none => false := by
  unfold fnd; rw [List.take_of_length_le (by omega), List.take_of_length_le (by omega)]
/-- Whether the part of a function at a place goes. -/
def okF (xs ys : List Ty) (n i : Nat) : Bool := match xs[i]?, ys[i]? with
  | some a, some b => if i + 1 = n then flows a b else flows b a
  | _, _ => false
theorem okF_no {xs ys : List Ty} {n i : Nat} (h0 : n = xs.length) (hi : i < n) (h : okF xs ys n i = false) : flFn flows xs ys = false := by
  cases e : flFn flows xs ys
  · rfl
  · rw [flFn_iff (by omega)] at e
    obtain ⟨hl, h1⟩ := e
    obtain ⟨k1, k2⟩ := h1 i (by omega)
    unfold okF at h
    rw [List.getElem?_eq_getElem (show i < xs.length by omega), List.getElem?_eq_getElem (show i < ys.length by omega)] at h
    simp only at h
    split at h
    · rw [k1 (by omega)] at h; cases h
    · rw [k2 (by omega)] at h; cases h
theorem okF_all {xs ys : List Ty} {n : Nat} (h0 : n = xs.length) (h1 : n = ys.length) (hp : 0 < n) (h : ∀ i, i < n → okF xs ys n i = true) : flFn flows xs ys = true := by
  refine (flFn_iff (by omega)).2 ⟨by omega, fun i hi => ?_⟩
  have := h i (by omega)
  unfold okF at this
  rw [List.getElem?_eq_getElem (show i < xs.length by omega), List.getElem?_eq_getElem (show i < ys.length by omega)] at this
  simp only at this
  refine ⟨fun e => ?_, fun e => ?_⟩
  · rw [if_pos (by omega)] at this; exact this
  · rw [if_neg (by omega)] at this; exact this

set_option maxHeartbeats 8000000 in
set_option maxRecDepth 100000 in
theorem rflows_rec (an bn : List ByteArray) (ap bp : List Ty) (ra : (Ty.mk 3 an ap).right = true) (rb : (Ty.mk 3 bn bp).right = true) (la : ap.length ≤ 1000001) (lb : bp.length ≤ 1000001) (I1 : FlowsIH 33 ap bp)
    (w : World) (P P' : Nat → Prop) (An : Option Addr) (cn : Nat) (A : Option Addr) (c : Nat) (Bn : Option Addr) (dn : Nat) (B : Option Addr) (d : Nat) (hAn : NV w P an An cn) (hA : TV w P ap A c) (hBn : NV w P' bn Bn dn) (hB : TV w P' bp B d) (r : Bool) (hr : r = flRec flows an ap bn bp) :
    Calls Tryz.prog 33 #[.agg #[.int .i64 3, .slice An an.length cn, .slice A ap.length c], .agg #[.int .i64 3, .slice Bn bn.length dn, .slice B bp.length d]] w fun e w' => e = .returned (.bool r) ∧ Below w.heap.size w w' := by
  have hla : an.length = ap.length := (right_rec ra rfl).1
  have hlb : bn.length = bp.length := (right_rec rb rfl).1
  have hna : an.Nodup := rise_nodup (right_rec ra rfl).2.2
  rw [hla, hlb]
  obtain ⟨m, hm⟩ : ∃ m, m = ap.length := ⟨_, rfl⟩
  obtain ⟨n, hn⟩ : ∃ n, n = bp.length := ⟨_, rfl⟩
  rw [← hm, ← hn]
  have hm1 : m ≤ 1000001 := by omega
  have hn1 : n ≤ 1000001 := by omega
  have b1 : Below w.heap.size w (w.alloc (.cells (tarr 3 An m cn A m c) 25)) := bel1 w _
  have b2 : Below (w.alloc (.cells (tarr 3 An m cn A m c) 25)).heap.size (w.alloc (.cells (tarr 3 An m cn A m c) 25)) _ := bel1 _ (.cells (tarr 3 Bn n dn B n d) 25)
  have HB0 := Lib.hid (b1.trans (b2.mono b1.size))
  have R1 := Lib.hid ((RowB.new w 25 (tarr 3 An m cn A m c)).alloc (.cells (tarr 3 Bn n dn B n d) 25))
  have R2 : Hid (RowB ((w.alloc (.cells (tarr 3 An m cn A m c) 25)).alloc (.cells (tarr 3 Bn n dn B n d) 25)) (w.heap.size + 1) 25 (tarr 3 Bn n dn B n d)) := by
    have := RowB.new (w.alloc (.cells (tarr 3 An m cn A m c) 25)) 25 (tarr 3 Bn n dn B n d)
    unfold Hid
    simpa using this
  have HNA := Lib.hid ((hAn.below b1).below b2)
  have HTA := Lib.hid ((hA.below b1).below b2)
  have HNB := Lib.hid ((hBn.below b1).below b2)
  have HTB := Lib.hid ((hB.below b1).below b2)
  have r1 := R1.out.cell
  have r2 := R2.out.cell
  have HR := Lib.hid hr
  have H1 := Lib.hid I1
  have HND := Lib.hid hna
  have HL : Hid (m = an.length ∧ m = ap.length ∧ n = bn.length ∧ n = bp.length) := ⟨by omega, hm, by omega, hn⟩
  clear b1 b2 hAn hA hBn hB hr I1 ra rb la lb hn hm hla hlb hna
  go_enter Tryz.func33, Tryz.ntmps33
  go_wp2_with fail
  obtain ⟨W, hW⟩ : ∃ W, W = (w.alloc (.cells (tarr 3 An m cn A m c) 25)).alloc (.cells (tarr 3 Bn n dn B n d) 25) := ⟨_, rfl⟩
  rw [← hW] at HB0 R1 R2 HNA HTA HNB HTB r1 r2 ⊢
  clear hW r1 r2
  go_loopg [5] (n + 1) (fun kx s5 wr => ∃ i : Nat, s5 = .int .i64 i ∧ n - i ≤ kx ∧ i ≤ n ∧ Hid (flRec flows an ap (bn.take i) (bp.take i) = true) ∧ Hid (Below W.heap.size W wr))
  case atStart => exact ⟨0, rfl, by omega, by omega, by simp [Hid, flRec], Below.refl _ _⟩
  case round =>
    obtain ⟨i, rfl, hkx, hin, HQ, HB⟩ := hrel
    have X1 := Lib.hid (R1.out.below HB.out R1.out.lt)
    have X2 := Lib.hid (R2.out.below HB.out R2.out.lt)
    have r1 := X1.out.cell
    have r2 := X2.out.cell
    by_cases hi : i < n
    · have hil : (i : Int) < (n : Int) := by omega
      obtain ⟨s, e⟩ := get_lt (l := bn) (i := i) (by rw [← HL.out.2.2.1]; exact hi)
      obtain ⟨t, e'⟩ := get_lt (l := bp) (i := i) (by rw [← HL.out.2.2.2]; exact hi)
      have HE := Lib.hid e
      have HE' := Lib.hid e'
      obtain ⟨j, hj⟩ : ∃ j, j = i + 1 := ⟨_, rfl⟩
      clear e e'
      go_wp2_with fail
      obtain ⟨V, rfl⟩ : ∃ V, V = wr := ⟨_, rfl⟩
      clear r1 r2
      go_loopg [6, 7] (m + 1) (fun kx s6 s7 wr => ∃ k : Nat, s6 = .bool (fnd an ap s t k) ∧ s7 = .int .i64 k ∧ m - k ≤ kx ∧ k ≤ m ∧ Hid (Below V.heap.size V wr))
      case atStart => exact ⟨0, by rw [fnd_zero], rfl, by omega, by omega, Below.refl _ _⟩
      case round =>
        obtain ⟨k, rfl, rfl, hkx2, hkm, HV⟩ := hrel
        have Y1 := Lib.hid (X1.out.below HV.out X1.out.lt)
        have Y2 := Lib.hid (X2.out.below HV.out X2.out.lt)
        have HBV := Lib.hid (HB.out.trans (HV.out.mono HB.out.size))
        by_cases hk : k < m
        · have hkl : (k : Int) < (m : Int) := by omega
          obtain ⟨y, ey⟩ := get_lt (l := an) (i := k) (by rw [← HL.out.1]; exact hk)
          obtain ⟨p, ep⟩ := get_lt (l := ap) (i := k) (by rw [← HL.out.2.1]; exact hk)
          obtain ⟨ga, oa, hAa, _, hga, ya, _⟩ := (HNA.out.below HBV.out).nth ey
          obtain ⟨gb, ob, hAb, _, hgb, yb, _⟩ := (HNB.out.below HBV.out).nth HE.out
          obtain ⟨x, hx⟩ : ∃ x, x = k + 1 := ⟨_, rfl⟩
          have r1 := Y1.out.cell
          have zr1 := fun d os => cell_regrown (Y1.out.cell 1) d os
          have zr1b := fun d os => cell_regrown (Y1.out.cell 2) d os
          have zr2 := fun d os => cell_regrown (Y2.out.cell 1) d os
          have zr2b := fun d os => cell_regrown (Y2.out.cell 2) d os
          have za := fun d os => cell_regrown ya d os
          have zb := fun d os => cell_regrown yb d os
          obtain ⟨f0, hf0⟩ : ∃ f0, f0 = fnd an ap s t k := ⟨_, rfl⟩
          have HF0 := Lib.hid hf0
          rw [← hf0]
          by_cases hyx : y = s
          · have q : (y.toList == s.toList) = true := by rw [beq_ba]; exact decide_eq_true hyx
            obtain ⟨f1, f2⟩ := fnd_eq (q := t) HND.out (hyx ▸ ey) ep
            obtain rfl : f0 = false := by rw [hf0]; exact f2
            obtain ⟨g, o, An2, cn2, A2, c2, hA2, _, hg, hti, v0, v1, v2⟩ := (HTA.out.below HBV.out).nth ep
            obtain ⟨g', o', Bn2, dn2, B2, d2, hB2, _, hg', hti', u0, u1, u2⟩ := (HTB.out.below HBV.out).nth HE'.out
            have CC : Hid (∀ w', Below wr.heap.size wr w' → Calls Tryz.prog 33 #[tv p An2 cn2 A2 c2, tv t Bn2 dn2 B2 d2] w' fun e w2 => e = .returned (.bool (flows p t)) ∧ Below w'.heap.size w' w2) := fun w' hb =>
              H1.out p (List.mem_of_getElem? ep) t (List.mem_of_getElem? HE'.out) w' P P' An2 cn2 A2 c2 Bn2 dn2 B2 d2 (hti.below hb) (hti'.below hb)
            obtain ⟨z, hz⟩ : ∃ z, z = flows p t := ⟨_, rfl⟩
            have HZ : Hid (fnd an ap s t (k + 1) = z) := by unfold Hid; rw [f1, hz]
            rw [← hz] at CC
            have hbd : Hid (∀ d os, Below wr.heap.size wr (Go.Sort.grow (redrawn wr d) os)) := fun d os => below_regrown wr d os
            have z0 := fun d os => cell_regrown v0 d os
            have z1 := fun d os => cell_regrown v1 d os
            have z2 := fun d os => cell_regrown v2 d os
            have z3 := fun d os => cell_regrown u0 d os
            have z4 := fun d os => cell_regrown u1 d os
            have z5 := fun d os => cell_regrown u2 d os
            subst hAa hAb hA2 hB2
            obtain ⟨kp, np, pp⟩ := p
            obtain ⟨kt, nt, pt⟩ := t
            simp only [kind_mk, names_mk, parts_mk] at z0 z1 z2 z3 z4 z5 CC
            clear hyx ey ep f1 f2 hf0 HF0 hz hti hti' v0 v1 v2 u0 u1 u2 ya yb hg hg' hga hgb
            go_wp2_with fail
            refine wp_region_quiet_below (by kernel_rfl) (by kernel_rfl) ?_
            repeat (go_big_quiet_step (first
              | (go_at_call 33; exact Calls.regrown_of (CC.out _ (hbd.out _ _)))))
            refine wpQuiet_nil ?_
            intro _ hw'
            obtain ⟨⟨dq, osq⟩, hw''⟩ := hw'
            subst hw''
            have HX := Lib.hid (HV.out.trans ((below_regrown wr dq osq).mono HV.out.size))
            generalize Go.Sort.grow (redrawn wr dq) osq = WX at *
            clear CC hbd zr1 zr1b zr2 zr2b za zb z0 z1 z2 z3 z4 z5 r1
            cases z
            · go_wp2_with fail
              go_roundg (m - x)
              case measure => omega
              case rel => exact ⟨x, by rw [hx, HZ.out], by rw [hx]; go_num, by omega, by omega, HX.out⟩
            · go_wp2_with fail
              go_roundg (m - x)
              case measure => omega
              case rel => exact ⟨x, by rw [hx, HZ.out], by rw [hx]; go_num, by omega, by omega, HX.out⟩
          · have q : (y.toList == s.toList) = false := by rw [beq_ba]; exact decide_eq_false hyx
            have HZ : Hid (fnd an ap s t (k + 1) = f0) := by unfold Hid; rw [fnd_ne ey hyx, hf0]
            subst hAa hAb
            clear hyx ey ep hf0 HF0 ya yb hga hgb
            go_wp2_with fail
            refine wp_region_quiet_below (by kernel_rfl) (by kernel_rfl) ?_
            repeat (go_big_quiet_step (fail))
            refine wpQuiet_nil ?_
            intro _ hw'
            obtain ⟨⟨dq, osq⟩, hw''⟩ := hw'
            subst hw''
            have HX := Lib.hid (HV.out.trans ((below_regrown wr dq osq).mono HV.out.size))
            generalize Go.Sort.grow (redrawn wr dq) osq = WX at *
            clear zr1 zr1b zr2 zr2b za zb r1
            go_wp2_with fail
            go_roundg (m - x)
            case measure => omega
            case rel => exact ⟨x, by rw [hx, HZ.out], by rw [hx]; go_num, by omega, by omega, HX.out⟩
        · have hkl : ¬ (k : Int) < (m : Int) := by omega
          have HK : Hid (k = an.length ∧ k = ap.length) := by
            have := HL.out
            unfold Hid; omega
          have HFA : Hid (fnd an ap s t k = match lk an ap s with | some p => flows p t | none => false) := fnd_all HK.out.1 HK.out.2
          have r1 := Y1.out.cell
          obtain ⟨f0, hf0⟩ : ∃ f0, f0 = fnd an ap s t k := ⟨_, rfl⟩
          have HF0 := Lib.hid hf0
          rw [← hf0]
          rw [← hf0] at HFA
          clear hf0 hk
          cases f0
          · have HF : Hid (r = false) := by
              unfold Hid
              rw [HR.out]
              refine flRec_no HE.out HE'.out fun p hp => ?_
              have := HFA.out
              rw [hp] at this
              exact this.symm
            go_wp2_with fail
            (first | go_ret | go_ret2)
            exact ⟨by rw [HF.out]; rfl, HB0.out.trans (HBV.out.mono HB0.out.size)⟩
          · have HQ2 : Hid (flRec flows an ap (bn.take (i + 1)) (bp.take (i + 1)) = true) := by
              refine flRec_take HQ.out HE.out HE'.out ?_
              have := HFA.out
              cases e : lk an ap s with
              | none => rw [e] at this; cases this
              | some p => rw [e] at this; exact ⟨p, rfl, this.symm⟩
            go_wp2_with fail
            go_roundg (n - j)
            case measure => omega
            case rel => exact ⟨j, by rw [hj]; go_num, by omega, by omega, by rw [hj]; exact HQ2.out, HBV.out⟩
    · have hil : ¬ (i : Int) < (n : Int) := by omega
      obtain rfl : i = n := by omega
      have HF : Hid (r = true) := by
        unfold Hid
        rw [HR.out]
        exact flRec_all HQ.out HL.out.2.2.1 HL.out.2.2.2
      clear hi
      go_wp2_with fail
      (first | go_ret | go_ret2)
      exact ⟨by rw [HF.out]; rfl, HB0.out.trans (HB.out.mono HB0.out.size)⟩
end Tm
end Go.Proofs.YtifkjngclkklfaaGreatDoor
/- Contracts: which types go where, by the document: functions; all. -/
namespace Go.Proofs.YtifkjngclkklfaaGreatDoor
open Go.RowKit Go.Op
namespace Tm
set_option maxHeartbeats 8000000 in
set_option maxRecDepth 100000 in
theorem rflows_fn (ap bp : List Ty) (la : ap.length ≤ 1000001) (lb : bp.length ≤ 1000001) (a0 : 0 < ap.length) (I1 : FlowsIH 33 ap bp) (I2 : FlowsIH 33 bp ap)
    (w : World) (P P' : Nat → Prop) (An : Option Addr) (ma cn : Nat) (A : Option Addr) (c : Nat) (Bn : Option Addr) (mb dn : Nat) (B : Option Addr) (d : Nat) (hA : TV w P ap A c) (hB : TV w P' bp B d) (r : Bool) (hr : r = flFn flows ap bp) :
    Calls Tryz.prog 33 #[.agg #[.int .i64 4, .slice An ma cn, .slice A ap.length c], .agg #[.int .i64 4, .slice Bn mb dn, .slice B bp.length d]] w fun e w' => e = .returned (.bool r) ∧ Below w.heap.size w w' := by
  obtain ⟨m, hm⟩ : ∃ m, m = ap.length := ⟨_, rfl⟩
  obtain ⟨n, hn⟩ : ∃ n, n = bp.length := ⟨_, rfl⟩
  rw [← hm, ← hn]
  have hm1 : m ≤ 1000001 := by omega
  have hn1 : n ≤ 1000001 := by omega
  have b1 : Below w.heap.size w (w.alloc (.cells (tarr 4 An ma cn A m c) 25)) := bel1 w _
  have b2 : Below (w.alloc (.cells (tarr 4 An ma cn A m c) 25)).heap.size (w.alloc (.cells (tarr 4 An ma cn A m c) 25)) _ := bel1 _ (.cells (tarr 4 Bn mb dn B n d) 25)
  have HB0 := Lib.hid (b1.trans (b2.mono b1.size))
  have R1 := Lib.hid ((RowB.new w 25 (tarr 4 An ma cn A m c)).alloc (.cells (tarr 4 Bn mb dn B n d) 25))
  have R2 : Hid (RowB ((w.alloc (.cells (tarr 4 An ma cn A m c) 25)).alloc (.cells (tarr 4 Bn mb dn B n d) 25)) (w.heap.size + 1) 25 (tarr 4 Bn mb dn B n d)) := by
    have := RowB.new (w.alloc (.cells (tarr 4 An ma cn A m c) 25)) 25 (tarr 4 Bn mb dn B n d)
    unfold Hid
    simpa using this
  have HTA := Lib.hid ((hA.below b1).below b2)
  have HTB := Lib.hid ((hB.below b1).below b2)
  have r1 := R1.out.cell
  have r2 := R2.out.cell
  have HR := Lib.hid hr
  have H1 := Lib.hid I1
  have H2 := Lib.hid I2
  have hm0 : 0 < m := by omega
  by_cases hmn : m = n
  case neg =>
    have hne : ((m : Int) != (n : Int)) = true := by rw [bne_iff_ne]; omega
    have hne2 : ((m : Int) == (n : Int)) = false := by rw [beq_eq_false_iff_ne]; omega
    have HF : Hid (r = false) := by
      unfold Hid
      rw [hr]
      cases e : flFn flows ap bp
      · rfl
      · obtain ⟨h, _⟩ := (flFn_iff a0).1 e; omega
    clear b1 b2 hA hB hr I1 I2 la lb hn hm hmn a0 HR hm0
    go_enter Tryz.func33, Tryz.ntmps33
    go_wp2_with fail
    (first | go_ret | go_ret2)
    exact ⟨by rw [HF.out]; rfl, HB0.out⟩
  subst hmn
  have HL : Hid (m = ap.length ∧ m = bp.length) := ⟨hm, hn⟩
  obtain ⟨m1, hm2⟩ : ∃ m1, m = m1 + 1 := ⟨m - 1, by omega⟩
  have HM1 := Lib.hid hm2
  have w1 : IntKind.i64.wrap ((m : Int) - 1) = (m1 : Int) := by rw [IntKind.wrap_i64]; omega
  clear b1 b2 hA hB hr I1 I2 la lb hn hm hm2 a0
  go_enter Tryz.func33, Tryz.ntmps33
  go_wp2_with fail
  obtain ⟨W, hW⟩ : ∃ W, W = (w.alloc (.cells (tarr 4 An ma cn A m c) 25)).alloc (.cells (tarr 4 Bn mb dn B m d) 25) := ⟨_, rfl⟩
  rw [← hW] at HB0 R1 R2 HTA HTB r1 r2 ⊢
  clear hW r1 r2
  go_loopg [8] (m + 1) (fun kx s8 wr => ∃ i : Nat, s8 = .int .i64 i ∧ m - i ≤ kx ∧ i ≤ m ∧ Hid (∀ j, j < i → okF ap bp m j = true) ∧ Hid (Below W.heap.size W wr))
  case atStart => exact ⟨0, rfl, by omega, by omega, fun j hj => by omega, Below.refl _ _⟩
  case round =>
    obtain ⟨i, rfl, hkx, hin, HQ, HB⟩ := hrel
    have X1 := Lib.hid (R1.out.below HB.out R1.out.lt)
    have X2 := Lib.hid (R2.out.below HB.out R2.out.lt)
    have r1 := X1.out.cell
    have r2 := X2.out.cell
    by_cases hi : i < m
    · have hil : (i : Int) < (m : Int) := by omega
      obtain ⟨p, e⟩ := get_lt (l := ap) (i := i) (by rw [← HL.out.1]; exact hi)
      obtain ⟨t, e'⟩ := get_lt (l := bp) (i := i) (by rw [← HL.out.2]; exact hi)
      have hok : okF ap bp m i = if i + 1 = m then flows p t else flows t p := by unfold okF; rw [e, e']
      obtain ⟨g, o, An2, cn2, A2, c2, hA2, _, hg, hti, v0, v1, v2⟩ := (HTA.out.below HB.out).nth e
      obtain ⟨g', o', Bn2, dn2, B2, d2, hB2, _, hg', hti', u0, u1, u2⟩ := (HTB.out.below HB.out).nth e'
      obtain ⟨x, hx⟩ : ∃ x, x = i + 1 := ⟨_, rfl⟩
      have hbd : Hid (∀ d os, Below wr.heap.size wr (Go.Sort.grow (redrawn wr d) os)) := fun d os => below_regrown wr d os
      have zr1 := fun d os => cell_regrown (X1.out.cell 2) d os
      have zr2 := fun d os => cell_regrown (X2.out.cell 2) d os
      have z0 := fun d os => cell_regrown v0 d os
      have z1 := fun d os => cell_regrown v1 d os
      have z2 := fun d os => cell_regrown v2 d os
      have z3 := fun d os => cell_regrown u0 d os
      have z4 := fun d os => cell_regrown u1 d os
      have z5 := fun d os => cell_regrown u2 d os
      have CA : Hid (∀ w', Below wr.heap.size wr w' → Calls Tryz.prog 33 #[tv p An2 cn2 A2 c2, tv t Bn2 dn2 B2 d2] w' fun e w2 => e = .returned (.bool (flows p t)) ∧ Below w'.heap.size w' w2) := fun w' hb =>
        H1.out p (List.mem_of_getElem? e) t (List.mem_of_getElem? e') w' P P' An2 cn2 A2 c2 Bn2 dn2 B2 d2 (hti.below hb) (hti'.below hb)
      have CB : Hid (∀ w', Below wr.heap.size wr w' → Calls Tryz.prog 33 #[tv t Bn2 dn2 B2 d2, tv p An2 cn2 A2 c2] w' fun e w2 => e = .returned (.bool (flows t p)) ∧ Below w'.heap.size w' w2) := fun w' hb =>
        H2.out t (List.mem_of_getElem? e') p (List.mem_of_getElem? e) w' P' P Bn2 dn2 B2 d2 An2 cn2 A2 c2 (hti'.below hb) (hti.below hb)
      subst hA2 hB2
      by_cases hlast : i = m1
      · have hq : ((i : Int) == (m1 : Int)) = true := by rw [beq_iff_eq]; omega
        rw [if_pos (by have := HM1.out; omega)] at hok
        obtain ⟨z, hz⟩ : ∃ z, z = flows p t := ⟨_, rfl⟩
        rw [← hz] at hok CA
        have HOK := Lib.hid hok
        obtain ⟨kp, np, pp⟩ := p
        obtain ⟨kt, nt, pt⟩ := t
        simp only [kind_mk, names_mk, parts_mk] at z0 z1 z2 z3 z4 z5 CA
        clear CB hz hok e e' hti hti' v0 v1 v2 u0 u1 u2 hg hg' hlast
        cases z
        · go_wp2_with fail
          refine wp_region_quiet_below (by kernel_rfl) (by kernel_rfl) ?_
          repeat (go_big_quiet_step (first
            | (go_at_call 33; exact Calls.regrown_of (CA.out _ (hbd.out _ _)))))
          refine wpQuiet_nil ?_
          intro _ hw'
          obtain ⟨⟨dq, osq⟩, hw''⟩ := hw'
          subst hw''
          have HX := Lib.hid (HB.out.trans ((below_regrown wr dq osq).mono HB.out.size))
          go_wp2_with fail
          (first | go_ret | go_ret2)
          exact ⟨by rw [HR.out, okF_no HL.out.1 hi HOK.out]; rfl, HB0.out.trans (HX.out.mono HB0.out.size)⟩
        · have HQ2 : Hid (∀ j, j < i + 1 → okF ap bp m j = true) := fun j hj => by
            by_cases e : j = i
            · subst e; exact HOK.out
            · exact HQ.out j (by omega)
          go_wp2_with fail
          refine wp_region_quiet_below (by kernel_rfl) (by kernel_rfl) ?_
          repeat (go_big_quiet_step (first
            | (go_at_call 33; exact Calls.regrown_of (CA.out _ (hbd.out _ _)))))
          refine wpQuiet_nil ?_
          intro _ hw'
          obtain ⟨⟨dq, osq⟩, hw''⟩ := hw'
          subst hw''
          have HX := Lib.hid (HB.out.trans ((below_regrown wr dq osq).mono HB.out.size))
          generalize Go.Sort.grow (redrawn wr dq) osq = WX at *
          clear CA hbd zr1 zr2 z0 z1 z2 z3 z4 z5 r1 r2
          go_wp2_with fail
          go_roundg (m - x)
          case measure => omega
          case rel => exact ⟨x, by rw [hx]; go_num, by omega, by omega, by rw [hx]; exact HQ2.out, HX.out⟩
      · have hq : ((i : Int) == (m1 : Int)) = false := by rw [beq_eq_false_iff_ne]; omega
        rw [if_neg (by have := HM1.out; omega)] at hok
        obtain ⟨z, hz⟩ : ∃ z, z = flows t p := ⟨_, rfl⟩
        rw [← hz] at hok CB
        have HOK := Lib.hid hok
        obtain ⟨kp, np, pp⟩ := p
        obtain ⟨kt, nt, pt⟩ := t
        simp only [kind_mk, names_mk, parts_mk] at z0 z1 z2 z3 z4 z5 CB
        clear CA hz hok e e' hti hti' v0 v1 v2 u0 u1 u2 hg hg' hlast
        cases z
        · go_wp2_with fail
          refine wp_region_quiet_below (by kernel_rfl) (by kernel_rfl) ?_
          repeat (go_big_quiet_step (first
            | (go_at_call 33; exact Calls.regrown_of (CB.out _ (hbd.out _ _)))))
          refine wpQuiet_nil ?_
          intro _ hw'
          obtain ⟨⟨dq, osq⟩, hw''⟩ := hw'
          subst hw''
          have HX := Lib.hid (HB.out.trans ((below_regrown wr dq osq).mono HB.out.size))
          go_wp2_with fail
          (first | go_ret | go_ret2)
          exact ⟨by rw [HR.out, okF_no HL.out.1 hi HOK.out]; rfl, HB0.out.trans (HX.out.mono HB0.out.size)⟩
        · have HQ2 : Hid (∀ j, j < i + 1 → okF ap bp m j = true) := fun j hj => by
            by_cases e : j = i
            · subst e; exact HOK.out
            · exact HQ.out j (by omega)
          go_wp2_with fail
          refine wp_region_quiet_below (by kernel_rfl) (by kernel_rfl) ?_
          repeat (go_big_quiet_step (first
            | (go_at_call 33; exact Calls.regrown_of (CB.out _ (hbd.out _ _)))))
          refine wpQuiet_nil ?_
          intro _ hw'
          obtain ⟨⟨dq, osq⟩, hw''⟩ := hw'
          subst hw''
          have HX := Lib.hid (HB.out.trans ((below_regrown wr dq osq).mono HB.out.size))
          generalize Go.Sort.grow (redrawn wr dq) osq = WX at *
          clear CB hbd zr1 zr2 z0 z1 z2 z3 z4 z5 r1 r2
          go_wp2_with fail
          go_roundg (m - x)
          case measure => omega
          case rel => exact ⟨x, by rw [hx]; go_num, by omega, by omega, by rw [hx]; exact HQ2.out, HX.out⟩
    · have hil : ¬ (i : Int) < (m : Int) := by omega
      obtain rfl : i = m := by omega
      have HF : Hid (r = true) := by
        unfold Hid
        rw [HR.out]
        exact okF_all HL.out.1 HL.out.2 hm0 HQ.out
      clear hi
      go_wp2_with fail
      (first | go_ret | go_ret2)
      exact ⟨by rw [HF.out]; rfl, HB0.out.trans (HB.out.mono HB0.out.size)⟩

set_option maxHeartbeats 4000000 in
set_option maxRecDepth 100000 in
theorem rflows_step (a b : Ty) (ra : a.right = true) (rb : b.right = true) (la : a.cnt ≤ 1000001) (lb : b.cnt ≤ 1000001) (I1 : FlowsIH 33 a.parts b.parts) (I2 : FlowsIH 33 b.parts a.parts)
    (w : World) (P P' : Nat → Prop) (An : Option Addr) (cn : Nat) (A : Option Addr) (c : Nat) (Bn : Option Addr) (dn : Nat) (B : Option Addr) (d : Nat) (hA : TI w P a An cn A c) (hB : TI w P' b Bn dn B d) (r : Bool) (hr : r = flows a b) :
    Calls Tryz.prog 33 #[tv a An cn A c, tv b Bn dn B d] w fun e w' => e = .returned (.bool r) ∧ Below w.heap.size w w' := by
  have l1 := cnt_names a
  have l2 := cnt_len a
  have l3 := cnt_names b
  have l4 := cnt_len b
  obtain ⟨ka, an, ap⟩ := a
  obtain ⟨kb, bn, bp⟩ := b
  obtain ⟨hAn, hAp⟩ := TI_iff.1 hA
  obtain ⟨hBn, hBp⟩ := TI_iff.1 hB
  simp only [names_mk, parts_mk] at *
  rw [flows_mk] at hr
  by_cases k0 : ka = 0
  case neg =>
    by_cases k1 : kb = 0
    case neg =>
      by_cases k2 : ka = kb
      case pos =>
        rw [if_neg (show ¬ (ka = 0 ∨ kb = 0) by omega), if_neg (show ¬ (ka ≠ kb) by omega)] at hr
        subst k2
        by_cases k3 : ka = 3
        · subst k3
          rw [if_pos rfl] at hr
          exact rflows_rec an bn ap bp ra rb (by omega) (by omega) I1 w P P' An cn A c Bn dn B d hAn hAp hBn hBp r hr
        rw [if_neg k3] at hr
        by_cases k4 : ka = 4
        · subst k4
          rw [if_pos rfl] at hr
          exact rflows_fn ap bp (by omega) (by omega) (right_fn ra rfl).2 I1 I2 w P P' An an.length cn A c Bn bn.length dn B d hAp hBp r hr
        rw [if_neg k4] at hr
        have hk := (right_plain ra k3 k4).1
        simp only [kind_mk] at hk
        rw [decide_eq_true (show ka = 1 ∨ ka = 2 by omega)] at hr
        have HB0 := Lib.hid ((bel1 w (.cells (tarr ka An an.length cn A ap.length c) 25)).trans ((bel1 _ (.cells (tarr ka Bn bn.length dn B bp.length d) 25)).mono (bel1 w (.cells (tarr ka An an.length cn A ap.length c) 25)).size))
        have r1 := ((RowB.new w 25 (tarr ka An an.length cn A ap.length c)).alloc (.cells (tarr ka Bn bn.length dn B bp.length d) 25)).cell
        have R2 : RowB ((w.alloc (.cells (tarr ka An an.length cn A ap.length c) 25)).alloc (.cells (tarr ka Bn bn.length dn B bp.length d) 25)) (w.heap.size + 1) 25 (tarr ka Bn bn.length dn B bp.length d) := by
          have := RowB.new (w.alloc (.cells (tarr ka An an.length cn A ap.length c) 25)) 25 (tarr ka Bn bn.length dn B bp.length d)
          simpa using this
        have r2 := R2.cell
        subst hr
        clear ra rb la lb I1 I2 hA hB hAn hAp hBn hBp k1 k3 k4 R2 l1 l2 l3 l4
        rcases (by omega : ka = 1 ∨ ka = 2) with rfl | rfl
        all_goals
          go_enter Tryz.func33, Tryz.ntmps33
          go_wp2_with fail
          (first | go_ret | go_ret2)
          exact ⟨rfl, HB0.out⟩
      case neg =>
        rw [if_neg (show ¬ (ka = 0 ∨ kb = 0) by omega), if_pos k2] at hr
        have HB0 := Lib.hid ((bel1 w (.cells (tarr ka An an.length cn A ap.length c) 25)).trans ((bel1 _ (.cells (tarr kb Bn bn.length dn B bp.length d) 25)).mono (bel1 w (.cells (tarr ka An an.length cn A ap.length c) 25)).size))
        have r1 := ((RowB.new w 25 (tarr ka An an.length cn A ap.length c)).alloc (.cells (tarr kb Bn bn.length dn B bp.length d) 25)).cell
        have R2 : RowB ((w.alloc (.cells (tarr ka An an.length cn A ap.length c) 25)).alloc (.cells (tarr kb Bn bn.length dn B bp.length d) 25)) (w.heap.size + 1) 25 (tarr kb Bn bn.length dn B bp.length d) := by
          have := RowB.new (w.alloc (.cells (tarr ka An an.length cn A ap.length c) 25)) 25 (tarr kb Bn bn.length dn B bp.length d)
          simpa using this
        have r2 := R2.cell
        have e0 : (ka == 0) = false := by rw [beq_eq_false_iff_ne]; exact k0
        have e1 : (kb == 0) = false := by rw [beq_eq_false_iff_ne]; exact k1
        have e2 : (ka != kb) = true := by rw [bne_iff_ne]; exact k2
        subst hr
        clear ra rb la lb I1 I2 hA hB hAn hAp hBn hBp k0 k1 k2 R2 l1 l2 l3 l4
        go_enter Tryz.func33, Tryz.ntmps33
        go_wp2_with fail
        (first | go_ret | go_ret2)
        exact ⟨rfl, HB0.out⟩
    case pos =>
      rw [if_pos (.inr k1)] at hr
      have HB0 := Lib.hid ((bel1 w (.cells (tarr ka An an.length cn A ap.length c) 25)).trans ((bel1 _ (.cells (tarr kb Bn bn.length dn B bp.length d) 25)).mono (bel1 w (.cells (tarr ka An an.length cn A ap.length c) 25)).size))
      have r1 := ((RowB.new w 25 (tarr ka An an.length cn A ap.length c)).alloc (.cells (tarr kb Bn bn.length dn B bp.length d) 25)).cell
      have R2 : RowB ((w.alloc (.cells (tarr ka An an.length cn A ap.length c) 25)).alloc (.cells (tarr kb Bn bn.length dn B bp.length d) 25)) (w.heap.size + 1) 25 (tarr kb Bn bn.length dn B bp.length d) := by
        have := RowB.new (w.alloc (.cells (tarr ka An an.length cn A ap.length c) 25)) 25 (tarr kb Bn bn.length dn B bp.length d)
        simpa using this
      have r2 := R2.cell
      have e0 : (ka == 0) = false := by rw [beq_eq_false_iff_ne]; exact k0
      subst hr k1
      clear ra rb la lb I1 I2 hA hB hAn hAp hBn hBp k0 R2 l1 l2 l3 l4
      go_enter Tryz.func33, Tryz.ntmps33
      go_wp2_with fail
      (first | go_ret | go_ret2)
      exact ⟨rfl, HB0.out⟩
  case pos =>
    rw [if_pos (.inl k0)] at hr
    have HB0 := Lib.hid ((bel1 w (.cells (tarr ka An an.length cn A ap.length c) 25)).trans ((bel1 _ (.cells (tarr kb Bn bn.length dn B bp.length d) 25)).mono (bel1 w (.cells (tarr ka An an.length cn A ap.length c) 25)).size))
    have r1 := ((RowB.new w 25 (tarr ka An an.length cn A ap.length c)).alloc (.cells (tarr kb Bn bn.length dn B bp.length d) 25)).cell
    have R2 : RowB ((w.alloc (.cells (tarr ka An an.length cn A ap.length c) 25)).alloc (.cells (tarr kb Bn bn.length dn B bp.length d) 25)) (w.heap.size + 1) 25 (tarr kb Bn bn.length dn B bp.length d) := by
      have := RowB.new (w.alloc (.cells (tarr ka An an.length cn A ap.length c) 25)) 25 (tarr kb Bn bn.length dn B bp.length d)
      simpa using this
    have r2 := R2.cell
    subst hr k0
    clear ra rb la lb I1 I2 hA hB hAn hAp hBn hBp R2 l1 l2 l3 l4
    go_enter Tryz.func33, Tryz.ntmps33
    go_wp2_with fail
    (first | go_ret | go_ret2)
    exact ⟨rfl, HB0.out⟩
theorem rflows_all : ∀ (n : Nat) (a b : Ty), a.depth ≤ n → b.depth ≤ n → a.right = true → b.right = true → a.cnt ≤ 1000001 → b.cnt ≤ 1000001 → ∀ (w : World) (P P' : Nat → Prop) (An : Option Addr) (cn : Nat) (A : Option Addr) (c : Nat) (Bn : Option Addr) (dn : Nat) (B : Option Addr) (d : Nat), TI w P a An cn A c → TI w P' b Bn dn B d →
    Calls Tryz.prog 33 #[tv a An cn A c, tv b Bn dn B d] w fun e w' => e = .returned (.bool (flows a b)) ∧ Below w.heap.size w w' := by
  intro n
  induction n with
  | zero => intro a _ h; have := a.depth_pos; omega
  | succ n ih =>
    intro a b da db ra rb la lb w P P' An cn A c Bn dn B d hA hB
    refine rflows_step a b ra rb la lb (fun x hx y hy => ?_) (fun x hx y hy => ?_) w P P' An cn A c Bn dn B d hA hB _ rfl
    · have := depth_part hx; have := depth_part hy; have := cnt_part hx; have := cnt_part hy
      exact ih x y (by omega) (by omega) (right_part ra hx) (right_part rb hy) (by omega) (by omega)
    · have := depth_part hx; have := depth_part hy; have := cnt_part hx; have := cnt_part hy
      exact ih x y (by omega) (by omega) (right_part rb hx) (right_part ra hy) (by omega) (by omega)
theorem rflows_any {a b : Ty} (ra : a.right = true) (rb : b.right = true) (la : a.cnt ≤ 1000001) (lb : b.cnt ≤ 1000001) (w : World) (P P' : Nat → Prop) (An : Option Addr) (cn : Nat) (A : Option Addr) (c : Nat) (Bn : Option Addr) (dn : Nat) (B : Option Addr) (d : Nat) (hA : TI w P a An cn A c) (hB : TI w P' b Bn dn B d) :
    Calls Tryz.prog 33 #[tv a An cn A c, tv b Bn dn B d] w fun e w' => e = .returned (.bool (flows a b)) ∧ Below w.heap.size w w' :=
  rflows_all (max a.depth b.depth) a b (by omega) (by omega) ra rb la lb w P P' An cn A c Bn dn B d hA hB
end Tm
end Go.Proofs.YtifkjngclkklfaaGreatDoor
/- An argument that is a type, opened: its parts. -/
namespace Go.Proofs.YtifkjngclkklfaaGreatDoor
open Go.ChangeShapes Go.WideShapes Go.ChangeAt Go.RowKit Go.Deep
namespace Tm
section
variable {H : Type} {enc : TypeId × Value → H} {P : Program} {W : World}
theorem build_parts {Q : Nat → Prop} {g o : Nat} : ∀ len : Nat, (∀ i, i < len → ∃ ty An cn A c, (∀ j u, (tcs ty An cn A c)[j]? = some u → W.cell? ⟨g, o + (i * 3 + j), none⟩ = some u) ∧ TI W Q ty An cn A c) →
    ∃ (ps : List Ty) (ck : List Value), ps.length = len ∧ (∀ j u, ck[j]? = some u → W.cell? ⟨g, o + j, none⟩ = some u) ∧ TL W Q ps ck
  | 0, _ => ⟨[], [], rfl, fun j u h => by simp at h, by rw [TL]⟩
  | len + 1, h => by
    obtain ⟨ps, ck, h1, h2, h3⟩ := build_parts len fun i hi => h i (by omega)
    obtain ⟨ty, An, cn, A, c, k1, k2⟩ := h len (by omega)
    have hl := TL.len ps ck h3
    refine ⟨ps ++ [ty], ck ++ tcs ty An cn A c, by simp [h1], fun j u hu => ?_, TL.app _ _ h3 (TL.one k2)⟩
    by_cases hj : j < ck.length
    · rw [List.getElem?_append_left hj] at hu
      exact h2 j u hu
    · rw [List.getElem?_append_right (by omega)] at hu
      have := k1 _ u hu
      rw [show len * 3 + (j - ck.length) = j by omega] at this
      exact this
theorem open_ty {t te : TypeId} {f0 f1 f2 : Field} (ht : P.underlying t = some (.struct #[f0, f1, f2])) (h0 : P.underlying f0.type = some (.int .i64)) (h1 : P.underlying f1.type = some (.slice te)) (h1e : P.underlying te = some .string) (h2 : P.underlying f2.type = some (.slice t))
    (k0 : P.cellsOf f0.type = 1) (k1 : P.cellsOf f1.type = 1) (k2 : P.cellsOf f2.type = 1) (ke : P.cellsOf te = 1) (o0 : f0.offset = 0) (o1 : f1.offset = 1) (o2 : f2.offset = 2) (kt : P.cellsOf t = 3) :
    ∀ (N fuel : Nat) (cs : List Value) (d : DataW H) (p : List MemPlace), SizeOf.sizeOf d ≤ N → DataW.trod enc P W 0 (fun _ => true) true fuel t cs = some (d, p) → (∀ n ∈ DataW.weights P t d, n ≤ 140737488351232) →
      ∃ ty An cn A c, cs = tcs ty An cn A c ∧ TI W (fun _ => True) ty An cn A c := by
  intro N
  induction N with
  | zero =>
    intro fuel cs d p hs h hw
    obtain ⟨xs, m, _, hx, _⟩ := DataW.trod_struct ht h
    simp only [Prod.mk.injEq] at hx
    rw [hx.1] at hs
    simp at hs
  | succ N ih =>
    intro fuel cs d p hs h hw
    obtain ⟨xs, m, _, hx, hlen, hxl, hf⟩ := DataW.trod_struct ht h
    rw [kt] at hlen
    match cs, hlen with
    | [c0, c1, c2], _ =>
      match xs, hxl with
      | [x0, x1, x2], _ =>
        have g0 := hf 0 f0 rfl
        have g1 := hf 1 f1 rfl
        have g2 := hf 2 f2 rfl
        rw [o0, k0] at g0
        rw [o1, k1] at g1
        rw [o2, k2] at g2
        simp only [List.drop_zero, List.take_succ_cons, List.take_zero, List.drop_succ_cons, List.getElem?_cons_zero, List.getElem?_cons_succ] at g0 g1 g2
        simp only [Prod.mk.injEq] at hx
        have hd := hx.1
        obtain ⟨z, hz, _⟩ := DataW.trod_int h0 g0
        simp at hz
        subst hz
        have hw1 : ∀ n ∈ DataW.weights P f1.type x1.1, n ≤ 140737488351232 := fun n hn => hw n (by
          rw [hd, DataW.weights, ht]
          simp [DataW.weightsEach, hn])
        have hw2 : ∀ n ∈ DataW.weights P f2.type x2.1, n ≤ 140737488351232 := fun n hn => hw n (by
          rw [hd, DataW.weights, ht]
          simp [DataW.weightsEach, hn])
        obtain ⟨An, cn, ns, hns, hnv⟩ := open_names h1 h1e ke (d := x1.1) (p := x1.2) g1 hw1
        simp at hns
        subst hns
        rcases open_slice h2 g2 with ⟨hc2, _⟩ | ⟨a, len, cap, m2, q, D, Pl, hc2, _, hl, _, hmm, hx2, hi⟩
        · simp at hc2
          subst hc2
          exact ⟨.mk z ns [], An, cn, none, 0, rfl, TI_iff.2 ⟨hnv, TV.nil _ _ _ _⟩⟩
        · rw [if_pos rfl] at hmm
          subst hmm
          rw [kt] at hi
          simp at hc2
          subst hc2
          have hsz : ∀ i, i < len → SizeOf.sizeOf (D i) ≤ N := fun i hi' => by
            have e1 : D i ∈ (List.range len).map D := List.mem_map.2 ⟨i, List.mem_range.2 hi', rfl⟩
            have e2 := List.sizeOf_lt_of_mem e1
            have e3 : x2.1 = .slice ((List.range len).map D) ((List.range (m2 - len)).map fun j => D (len + j)) := by rw [hx2]
            rw [hd] at hs
            simp only [List.map_cons, List.map_nil] at hs
            rw [e3] at hs
            simp at hs
            omega
          have hwi : ∀ i, i < len → ∀ n ∈ DataW.weights P t (D i), n ≤ 140737488351232 := fun i hi' n hn => hw2 n (by
            have e3 : x2.1 = .slice ((List.range len).map D) ((List.range (m2 - len)).map fun j => D (len + j)) := by rw [hx2]
            rw [e3, DataW.weights, h2]
            exact List.mem_cons_of_mem _ (List.mem_append_left _ (weightsAll_mem (d := D i) (List.mem_map.2 ⟨i, List.mem_range.2 hi', rfl⟩) _ hn)))
          by_cases hl0 : len = 0
          · subst hl0
            exact ⟨.mk z ns [], An, cn, some a, m2, rfl, TI_iff.2 ⟨hnv, TV.nil _ _ _ _⟩⟩
          · have key : ∀ i, i < len → ∃ ty An cn A c, (∀ j u, (tcs ty An cn A c)[j]? = some u → W.cell? ((a.add (i * 3)).add j) = some u) ∧ TI W (fun _ => True) ty An cn A c := fun i hi' => by
              obtain ⟨cs', hc', ht'⟩ := hi i (by omega)
              obtain ⟨ty, An, cn, A, c, rfl, hti⟩ := ih q cs' (D i) (Pl i) (hsz i hi') ht' (hwi i hi')
              obtain ⟨_, _, hat⟩ := World.cells?_some hc'
              refine ⟨ty, An, cn, A, c, fun j u hu => ?_, hti⟩
              have hj := (List.getElem?_eq_some_iff.1 hu).1
              have := hat j (by simpa using hj)
              rw [this]
              exact hu
            have ha : a = ⟨a.block, a.off, none⟩ := by
              obtain ⟨ty, _, _, _, _, hk, _⟩ := key 0 (by omega)
              have := spot_of (hk 0 _ rfl)
              simpa [Addr.add] using this
            have hlt : a.block < W.heap.size := by
              obtain ⟨ty, _, _, _, _, hk, _⟩ := key 0 (by omega)
              have := World.block_lt_of_cell? W _ (hk 0 _ rfl)
              simpa [Addr.add] using this
            obtain ⟨ps, ck, q1, q2, q3⟩ := build_parts (W := W) (Q := fun _ => True) (g := a.block) (o := a.off) len (fun i hi' => by
              obtain ⟨ty, An, cn, A, c, hk, hti⟩ := key i hi'
              refine ⟨ty, An, cn, A, c, fun j u hu => ?_, hti⟩
              have := hk j u hu
              rw [ha, add_flat, add_flat, Nat.add_assoc] at this
              exact this)
            refine ⟨.mk z ns ps, An, cn, some a, m2, by simp [q1], TI_iff.2 ⟨hnv, by show ps.length ≤ m2; omega, fun _ => ⟨a.block, a.off, ck, congrArg some ha, trivial, hlt, q2, q3⟩⟩⟩
end
end Tm
end Go.Proofs.YtifkjngclkklfaaGreatDoor
/- An argument of this program that is a type. -/
namespace Go.Proofs.YtifkjngclkklfaaGreatDoor
open Go.ChangeShapes Go.WideShapes Go.ChangeAt Go.RowKit Go.Deep
namespace Tm
set_option maxRecDepth 100000 in
theorem open_tyarg {H : Type} {enc : TypeId × Value → H} {W : World} {base : Nat} {v : Value} {d : DataW H} {p : List MemPlace} (hv : Value.okWide Tryz.prog W .any base 25 v)
    (h : DataW.Trod enc Tryz.prog W 0 (fun _ => true) true 25 v d p) (hw : ∀ n ∈ DataW.weights Tryz.prog 25 d, n ≤ 140737488351232) :
    ∃ ty An cn A c, v = tv ty An cn A c ∧ TI W (fun _ => True) ty An cn A c := by
  obtain ⟨cs, rfl, hsz⟩ := okWide_struct Tryz.underlying25 hv
  obtain ⟨fuel, hf⟩ := h
  obtain ⟨ty, An, cn, A, c, hcs, hti⟩ := open_ty Tryz.underlying25 Tryz.underlying3 Tryz.underlying22 Tryz.underlying9 Tryz.underlying23 (by kernel_rfl) (by kernel_rfl) (by kernel_rfl) (by kernel_rfl) rfl rfl rfl (by kernel_rfl) _ fuel _ d p (Nat.le_refl _) hf hw
  refine ⟨ty, An, cn, A, c, ?_, hti⟩
  have h2 : cs.toList = tcs ty An cn A c := by simpa [Value.cells] using hcs
  have h3 : cs = (tcs ty An cn A c).toArray := by rw [← h2]
  rw [h3]
end Tm
theorem rd25 : Tryz.prog.readableRec 25 = true ∧ 25 < Tryz.prog.types.size := ⟨by kernel_rfl, of_decide_eq_true (by kernel_rfl)⟩
end Go.Proofs.YtifkjngclkklfaaGreatDoor
