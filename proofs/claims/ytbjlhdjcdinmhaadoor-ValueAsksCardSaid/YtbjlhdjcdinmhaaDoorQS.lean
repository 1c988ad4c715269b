/- Values: QS. -/
import Derived.Test.YtbjlhdjcdinmhaaDoorQR
namespace Go.Proofs.YtbjlhdjcdinmhaaDoor
open Go.RowKit Go.Op
namespace Vm
def AskV (w : World) (v : Value) (ps : List Vl) (q : Vl → Bool) : Prop :=
  ∃ F caps, v = .func (.func F) #[] caps ∧ (∀ v w, (callFunc F (#[v] ++ caps)).run Tryd.prog w = .ok (.enter F (#[v] ++ caps)) w) ∧
    ∀ p ∈ ps, ∀ (w' : World) (P : Nat → Prop) (An : Option Addr) (cn : Nat) (A : Option Addr) (c : Nat), Below w.heap.size w w' → VI w' P p An cn A c → Calls Tryd.prog F (#[vv p An cn A c] ++ caps) w' fun e w2 => e = .returned (.bool (q p)) ∧ Below w'.heap.size w' w2
theorem AskV.below {w w' : World} {v : Value} {ps : List Vl} {q : Vl → Bool} (h : AskV w v ps q) (hb : Below w.heap.size w w') : AskV w' v ps q := by
  obtain ⟨F, caps, h1, h2, h3⟩ := h
  exact ⟨F, caps, h1, h2, fun p hp w2 P An cn A c hb2 => h3 p hp w2 P An cn A c (hb.trans (hb2.mono hb.size))⟩
theorem any_take {q : Vl → Bool} {l : List Vl} {i : Nat} {t : Vl} (e : l[i]? = some t) (h : (l.take i).any q = false) (k : q t = false) : (l.take (i + 1)).any q = false := by
  rw [List.take_add_one, e]
  simp [h, k]

set_option maxHeartbeats 4000000 in
set_option maxRecDepth 100000 in
theorem indexf_any (w : World) (v : Value) (ps : List Vl) (q : Vl → Bool) (P : Nat → Prop) (A : Option Addr) (c : Nat) (hv : AskV w v ps q) (h : VV w P ps A c) (hl : ps.length ≤ 1000001) :
    Calls Tryd.prog 55 #[.slice A ps.length c, v] w fun e w' => ∃ r : Int, e = .returned (.int .i64 r) ∧ decide (r ≥ 0) = ps.any q ∧ Below w.heap.size w w' := by
  obtain ⟨F, caps, rfl, eF, h3⟩ := hv
  have HK := Lib.hid h
  have HP := Lib.hid h3
  obtain ⟨n, hn⟩ : ∃ n, n = ps.length := ⟨_, rfl⟩
  have HN := Lib.hid hn
  have hn1 : n ≤ 1000001 := by omega
  rw [← hn]
  clear h h3 hn hl
  go_enter Tryd.func55, Tryd.ntmps55
  go_wp2_with fail
  go_loopg [8] (n + 1) (fun kx s8 wr => ∃ i : Nat, s8 = .int .i64 i ∧ n - i ≤ kx ∧ i ≤ n ∧ Hid ((ps.take i).any q = false) ∧ Hid (Below w.heap.size w wr))
  case atStart => exact ⟨0, rfl, by omega, by omega, by simp [Hid], Below.refl _ _⟩
  case round =>
    obtain ⟨i, rfl, hkx, hin, HQ, HB⟩ := hrel
    by_cases hi : i < n
    · have hil : (i : Int) < (n : Int) := by omega
      obtain ⟨t, e⟩ := get_lt (l := ps) (i := i) (by rw [← HN.out]; exact hi)
      obtain ⟨g, o, An2, cn2, A2, c2, hA, hP, hg, hti, z0, z1, z2, z3, z4⟩ := (HK.out.below HB.out).nth e
      have hm := List.mem_of_getElem? e
      obtain ⟨j, hj⟩ : ∃ j, j = i + 1 := ⟨_, rfl⟩
      have C := Lib.hid (HP.out t hm wr P An2 cn2 A2 c2 HB.out hti)
      have HE := Lib.hid e
      have HM := Lib.hid hm
      obtain ⟨b, hb⟩ : ∃ b, b = q t := ⟨_, rfl⟩
      have HBB := Lib.hid hb
      rw [← hb] at C
      have eV := eF (vv t An2 cn2 A2 c2)
      obtain ⟨kt, nt, pt⟩ := t
      simp only [hd_mk, names_mk, parts_mk] at z0 z1 z2 z3 z4 C eV
      subst hA
      clear hti e hm hb
      go_wp2_with fail
      refine C.out.mono ?_
      rintro e w2 ⟨rfl, h2⟩
      have HB2 : Hid (Below w.heap.size w w2) := HB.out.trans (h2.mono HB.out.size)
      clear h2 C z0 z1 z2 z3 z4
      cases b
      · have HQ2 := Lib.hid (any_take HE.out HQ.out HBB.out.symm)
        go_wp2_with fail
        go_roundg (n - j)
        case measure => omega
        case rel => exact ⟨j, by rw [hj]; go_num, by omega, by omega, by rw [hj]; exact HQ2.out, HB2.out⟩
      · go_wp2_with fail
        (first | go_ret | go_ret2)
        refine ⟨i, rfl, ?_, HB2.out⟩
        have : ps.any q = true := List.any_eq_true.2 ⟨_, HM.out, HBB.out.symm⟩
        rw [this]
        simp
    · have hil : ¬ (i : Int) < (n : Int) := by omega
      go_wp2_with fail
      (first | go_ret | go_ret2)
      refine ⟨-1, rfl, ?_, HB.out⟩
      have h1 := HQ.out
      rw [List.take_of_length_le (by rw [← HN.out]; omega)] at h1
      rw [h1]
      decide

set_option maxHeartbeats 4000000 in
set_option maxRecDepth 100000 in
theorem containsf_any (w : World) (v : Value) (ps : List Vl) (q : Vl → Bool) (P : Nat → Prop) (A : Option Addr) (c : Nat) (hv : AskV w v ps q) (h : VV w P ps A c) (hl : ps.length ≤ 1000001) :
    Calls Tryd.prog 36 #[.slice A ps.length c, v] w fun e w' => e = .returned (.bool (ps.any q)) ∧ Below w.heap.size w w' := by
  have C := Lib.hid (indexf_any w v ps q P A c hv h hl)
  obtain ⟨F, caps, rfl, eF, h3⟩ := hv
  clear h3 h eF hl
  go_enter Tryd.func36, Tryd.ntmps36
  go_wp2_with fail
  refine C.out.mono ?_
  rintro e w1 ⟨r, rfl, hr, h1⟩
  have HB := Lib.hid h1
  have HR := Lib.hid hr
  clear h1 C hr
  go_wp2_with fail
  (first | go_ret | go_ret2)
  exact ⟨by rw [← HR.out]; rfl, HB.out⟩


theorem less_not (a b : ByteArray) : (bytesLess a.toList b.toList || a.toList == b.toList) = !(bytesLess b.toList a.toList) := by
  have h1 := lt_tri (a := a) (b := b)
  have h2 := lt_asymm (a := a) (b := b)
  unfold lt at h1 h2
  rw [beq_ba]
  cases x : bytesLess a.toList b.toList
  · cases y : bytesLess b.toList a.toList
    · rw [h1 x y]; simp
    · have : a ≠ b := by
        rintro rfl
        rw [x] at y; cases y
      simp [this]
  · rw [h2 x]; rfl
@[go_sem] theorem geq_str (t : TypeId) (a b : ByteArray) : binOp .geq t (.string a) (.string b) = pure (.bool !(bytesLess a.toList b.toList)) := by simp [binOp, stringOp]
@[go_sem] theorem leq_str (t : TypeId) (a b : ByteArray) : binOp .leq t (.string a) (.string b) = pure (.bool !(bytesLess b.toList a.toList)) := by
  have : binOp .leq t (.string a) (.string b) = pure (.bool (bytesLess a.toList b.toList || a.toList == b.toList)) := by simp [binOp, stringOp]
  rw [this, less_not]
theorem rise_take1 : ∀ {ns : List ByteArray} {i : Nat} {p s : ByteArray}, ns[i]? = some p → ns[i + 1]? = some s → riseB (ns.take (i + 1 + 1)) = (riseB (ns.take (i + 1)) && lt p s)
  | [], i, p, s, h, _ => by simp at h
  | [a], i, p, s, _, h => by simp at h
  | a :: b :: l, 0, p, s, h, h' => by
    obtain rfl : a = p := by simpa using h
    obtain rfl : b = s := by simpa using h'
    simp [riseB]
  | a :: b :: l, i + 1, p, s, h, h' => by
    have ih := rise_take1 (ns := b :: l) (i := i) (by simpa using h) (by simpa using h')
    have e1 : (a :: b :: l).take (i + 1 + 1 + 1) = a :: b :: l.take (i + 1) := rfl
    have e2 : (a :: b :: l).take (i + 1 + 1) = a :: b :: l.take i := rfl
    have e3 : (b :: l).take (i + 1 + 1) = b :: l.take (i + 1) := rfl
    have e4 : (b :: l).take (i + 1) = b :: l.take i := rfl
    rw [e3, e4] at ih
    rw [e1, e2, riseB, riseB, ih, Bool.and_assoc]
theorem rise_of_take {ns : List ByteArray} {i : Nat} (h : riseB (ns.take i) = false) : riseB ns = false := by
  cases e : riseB ns
  · rfl
  · have key : ∀ (l : List ByteArray) (i : Nat), riseB l = true → riseB (l.take i) = true := by
      intro l
      induction l with
      | nil => intro i _; simp [riseB]
      | cons a l ih =>
        intro i hl
        cases i with
        | zero => simp [riseB]
        | succ i =>
          rw [List.take_succ_cons]
          refine rise_cons' (ih i (rise_tail hl)) fun x hx => rise_lt hl x (List.mem_of_mem_take hx)
    rw [key ns i e] at h
    cases h
where
  rise_cons' {n : ByteArray} {ns : List ByteArray} (h : riseB ns = true) (k : ∀ x ∈ ns, lt n x = true) : riseB (n :: ns) = true := rise_hcons h fun y hy => k y (by cases ns with
    | nil => simp at hy
    | cons a l => simp at hy; subst hy; exact List.mem_cons_self)

set_option maxHeartbeats 4000000 in
set_option maxRecDepth 100000 in
theorem riseF_any (w : World) (ns : List ByteArray) (P : Nat → Prop) (A : Option Addr) (c : Nat) (h : NV w P ns A c) (hl : ns.length ≤ 1000001) :
    Calls Tryd.prog 54 #[.slice A ns.length c] w fun e w' => e = .returned (.bool (riseB ns)) ∧ Below w.heap.size w w' := by
  obtain ⟨r, hr⟩ : ∃ r, r = riseB ns := ⟨_, rfl⟩
  have HR := Lib.hid hr
  rw [← hr]
  have HK := Lib.hid h
  obtain ⟨n, hn⟩ : ∃ n, n = ns.length := ⟨_, rfl⟩
  have HN := Lib.hid hn
  have hn1 : n ≤ 1000001 := by omega
  rw [← hn]
  clear h hn hl hr
  go_enter Tryd.func54, Tryd.ntmps54
  go_wp2_with fail
  go_loopg [6] (n + 1) (fun kx s6 wr => ∃ i : Nat, s6 = .int .i64 i ∧ n - i ≤ kx ∧ i ≤ n ∧ Hid (riseB (ns.take i) = true) ∧ Hid (Below w.heap.size w wr))
  case atStart => exact ⟨0, rfl, by omega, by omega, by simp [Hid, riseB], Below.refl _ _⟩
  case round =>
    obtain ⟨i, rfl, hkx, hin, HQ, HB⟩ := hrel
    by_cases hi : i < n
    · have hil : (i : Int) < (n : Int) := by omega
      obtain ⟨s, e⟩ := get_lt (l := ns) (i := i) (by rw [← HN.out]; exact hi)
      obtain ⟨g, o, hA, _, hg, z0, hz⟩ := (HK.out.below HB.out).nth e
      obtain ⟨j, hj⟩ : ∃ j, j = i + 1 := ⟨_, rfl⟩
      cases i with
      | zero =>
        have HQ2 : Hid (riseB (ns.take (0 + 1)) = true) := by
          cases ns with
          | nil => simp at e
          | cons a l => simp [Hid, riseB]
        rw [Nat.add_zero] at z0
        clear e
        subst hA
        go_wp2_with fail
        go_quiet (fail)
        go_wp2_with fail
        go_roundg (n - j)
        case measure => omega
        case rel => exact ⟨j, by rw [hj]; go_num, by omega, by omega, by rw [hj]; exact HQ2.out, below_drewN HB.out _⟩
      | succ i =>
        obtain ⟨p, e2⟩ := get_lt (l := ns) (i := i) (by rw [← HN.out]; omega)
        obtain ⟨g', o', hA', _, hg', y0, _⟩ := (HK.out.below HB.out).nth e2
        rw [hA] at hA'
        injection hA' with hA'
        injection hA' with h1 h2
        subst h1 h2
        obtain ⟨x, hx⟩ : ∃ x, x = lt p s := ⟨_, rfl⟩
        have hx2 : bytesLess p.toList s.toList = x := hx.symm
        have HX := Lib.hid hx
        have HE := Lib.hid e
        have HE2 := Lib.hid e2
        obtain ⟨u, hu⟩ : ∃ u : Nat, u = i + 1 := ⟨_, rfl⟩
        have q1 : IntKind.i64.wrap ((u : Int) - 1) = (i : Int) := by rw [IntKind.wrap_i64]; omega
        have h0i : 0 < u := by omega
        have hgt : decide (0 < u) = true := by simpa using h0i
        have q2 : (u : Int) > 0 := by omega
        have t2 : (u : Int) - 1 = (i : Int) := by omega
        have r2 : IntKind.i64.wrap (i : Int) = (i : Int) := by rw [IntKind.wrap_i64]; omega
        have q3 : (i : Int) < (n : Int) := by omega
        have q4 : (0 : Int) ≤ (i : Int) := by omega
        have HU := Lib.hid hu
        rw [← hu] at hi hil z0 hkx hin hj HQ ⊢
        clear e e2 hu hx
        subst hA
        cases x
        · have HF : Hid (riseB ns = false) := rise_of_take (i := i + 1 + 1) (by rw [rise_take1 HE2.out HE.out, ← HX.out, Bool.and_false])
          go_wp2_with fail
          go_quiet (fail)
          go_wp2_with fail
          (first | go_ret | go_ret2)
          exact ⟨by rw [HR.out, HF.out]; rfl, below_drewN HB.out _⟩
        · have HQ2 : Hid (riseB (ns.take (u + 1)) = true) := by
            unfold Hid
            rw [HU.out, rise_take1 HE2.out HE.out, ← HX.out, ← HU.out, HQ.out]
            rfl
          go_wp2_with fail
          go_quiet (fail)
          go_wp2_with fail
          go_roundg (n - j)
          case measure => omega
          case rel => exact ⟨j, by rw [hj]; go_num, by omega, by omega, by rw [hj]; exact HQ2.out, below_drewN HB.out _⟩
    · have hil : ¬ (i : Int) < (n : Int) := by omega
      obtain rfl : i = n := by omega
      have HF : Hid (r = true) := by
        have h := HQ.out
        rw [List.take_of_length_le (by rw [← HN.out]; exact Nat.le_refl _)] at h
        unfold Hid; rw [HR.out]; exact h
      clear hi
      go_wp2_with fail
      (first | go_ret | go_ret2)
      exact ⟨by rw [HF.out]; rfl, HB.out⟩

theorem len0 {α : Type} (l : List α) : decide (l = []) = ((l.length : Int) == 0) := by
  cases l with
  | nil => rfl
  | cons a l =>
    have : (((a :: l).length : Int) == 0) = false := by rw [beq_eq_false_iff_ne]; simp only [List.length_cons]; omega
    rw [this]; simp
theorem nat0 (n : Nat) : decide (n = 0) = ((n : Int) == 0) := by rw [Bool.eq_iff_iff]; simp
theorem str0 (s : ByteArray) : decide (s = ⟨#[]⟩) = (s.toList == []) := by
  have h := beq_ba (a := s) (b := ⟨#[]⟩)
  have e : (⟨#[]⟩ : ByteArray).toList = [] := by rw [ByteArray.toList_eq]
  rw [e] at h
  exact h.symm
set_option maxHeartbeats 4000000 in
set_option maxRecDepth 100000 in
theorem none_any (w : World) (k : VH) (An : Option Addr) (m cn : Nat) (A : Option Addr) (n c : Nat) :
    Calls Tryd.prog 53 #[.agg (varr k An m cn A n c)] w fun e w' => e = .returned (.bool (((m : Int) == 0) && ((n : Int) == 0))) ∧ Below w.heap.size w w' := by
  have B0 := Lib.hid (bel1 w (.cells (varr k An m cn A n c) 34))
  have rc := (RowB.new w 34 (varr k An m cn A n c)).cell
  cases hx : ((m : Int) == 0) <;> cases hy : ((n : Int) == 0) <;>
    (go_enter Tryd.func53, Tryd.ntmps53
     go_wp2_with fail
     (first | go_ret | go_ret2)
     exact ⟨rfl, B0.out⟩)

set_option maxHeartbeats 4000000 in
set_option maxRecDepth 100000 in
theorem own_any (w : World) (k : VH) (ns : List ByteArray) (P : Nat → Prop) (An : Option Addr) (cn : Nat) (A : Option Addr) (n c : Nat) (h : NV w P ns An cn) (hl : ns.length ≤ 1000001) :
    Calls Tryd.prog 35 #[.agg (varr k An ns.length cn A n c)] w fun e w' => e = .returned (.bool (ownB k ns n)) ∧ Below w.heap.size w w' := by
  have b0 := bel1 w (.cells (varr k An ns.length cn A n c) 34)
  have B0 := Lib.hid b0
  have R0 := Lib.hid (RowB.new w 34 (varr k An ns.length cn A n c))
  obtain ⟨W, hW⟩ : ∃ W, W = w.alloc (.cells (varr k An ns.length cn A n c) 34) := ⟨_, rfl⟩
  rw [← hW] at R0 B0 b0
  have rc := R0.out.cell
  have C := Lib.hid (riseF_any W ns P An cn (h.below b0) hl)
  have CN := Lib.hid (none_any W k An ns.length cn A n c)
  clear h hl b0
  obtain ⟨r, hr⟩ : ∃ r, r = ownB k ns n := ⟨_, rfl⟩
  rw [← hr]
  unfold ownB at hr
  simp only [len0, nat0, str0] at hr
  have HL : Hid (decide (ns.length = n) = ((ns.length : Int) == (n : Int))) := by unfold Hid; rw [Bool.eq_iff_iff]; simp; omega
  rw [HL.out] at hr
  clear HL
  generalize riseB ns = z at *
  generalize ns.length = m at *
  have HR := Lib.hid hr
  clear hr
  have hd0 : decide (k.n = 0) = (k.n == 0) := by rw [Bool.eq_iff_iff]; simp
  by_cases h1 : k.kind = 1
  · have HF : Hid (r = ((k.s.toList == []) && (((m : Int) == 0) && ((n : Int) == 0)))) := by unfold Hid; rw [HR.out, if_pos h1]
    have e1 : (k.kind == 1) = true := by rw [beq_iff_eq]; exact h1
    clear HR h1 C
    generalize (((m : Int) == 0) && ((n : Int) == 0)) = y at *
    cases hx : (k.s.toList == [])
    · go_enter Tryd.func35, Tryd.ntmps35
      go_wp2_with fail
      rw [← hW]
      (first | go_ret | go_ret2)
      exact ⟨by rw [HF.out, hx]; rfl, B0.out⟩
    · go_enter Tryd.func35, Tryd.ntmps35
      go_wp2_with fail
      rw [← hW]
      refine CN.out.mono ?_
      rintro e w1 ⟨rfl, h1⟩
      have HB := Lib.hid (B0.out.trans (h1.mono B0.out.size))
      clear h1 CN
      go_wp2_with fail
      (first | go_ret | go_ret2)
      exact ⟨by rw [HF.out, hx]; rfl, HB.out⟩
  have e1 : (k.kind == 1) = false := by rw [beq_eq_false_iff_ne]; exact h1
  by_cases h2 : k.kind = 2
  · have HF : Hid (r = ((k.n == 0) && (((m : Int) == 0) && ((n : Int) == 0)))) := by unfold Hid; rw [HR.out, if_neg h1, if_pos h2, hd0]
    have e2 : (k.kind == 2) = true := by rw [beq_iff_eq]; exact h2
    clear HR h1 h2 C
    generalize (((m : Int) == 0) && ((n : Int) == 0)) = y at *
    cases hx : (k.n == 0)
    · go_enter Tryd.func35, Tryd.ntmps35
      go_wp2_with fail
      rw [← hW]
      (first | go_ret | go_ret2)
      exact ⟨by rw [HF.out, hx]; rfl, B0.out⟩
    · go_enter Tryd.func35, Tryd.ntmps35
      go_wp2_with fail
      rw [← hW]
      refine CN.out.mono ?_
      rintro e w1 ⟨rfl, h1⟩
      have HB := Lib.hid (B0.out.trans (h1.mono B0.out.size))
      clear h1 CN
      go_wp2_with fail
      (first | go_ret | go_ret2)
      exact ⟨by rw [HF.out, hx]; rfl, HB.out⟩
  have e2 : (k.kind == 2) = false := by rw [beq_eq_false_iff_ne]; exact h2
  by_cases h4 : k.kind = 4
  · have HF : Hid (r = (decide (0 ≤ k.n) && ((k.s.toList == []) && (((m : Int) == 0) && ((n : Int) == 0))))) := by unfold Hid; rw [HR.out, if_neg h1, if_neg h2, if_pos h4]
    have e4 : (k.kind == 4) = true := by rw [beq_iff_eq]; exact h4
    clear HR h1 h2 h4 C
    generalize (((m : Int) == 0) && ((n : Int) == 0)) = y at *
    by_cases hx : 0 ≤ k.n
    · have hx1 : k.n ≥ 0 := hx
      cases hs : (k.s.toList == [])
      · go_enter Tryd.func35, Tryd.ntmps35
        go_wp2_with fail
        rw [← hW]
        (first | go_ret | go_ret2)
        exact ⟨by rw [HF.out, hs]; simp, B0.out⟩
      · go_enter Tryd.func35, Tryd.ntmps35
        go_wp2_with fail
        rw [← hW]
        refine CN.out.mono ?_
        rintro e w1 ⟨rfl, h1⟩
        have HB := Lib.hid (B0.out.trans (h1.mono B0.out.size))
        clear h1 CN
        go_wp2_with fail
        (first | go_ret | go_ret2)
        exact ⟨by rw [HF.out, hs, decide_eq_true hx]; rfl, HB.out⟩
    · have hx1 : ¬ k.n ≥ 0 := hx
      have HX := Lib.hid hx
      clear hx
      go_enter Tryd.func35, Tryd.ntmps35
      go_wp2_with fail
      rw [← hW]
      (first | go_ret | go_ret2)
      exact ⟨by rw [HF.out, decide_eq_false (by have := HX.out; omega)]; rfl, B0.out⟩
  have e4 : (k.kind == 4) = false := by rw [beq_eq_false_iff_ne]; exact h4
  by_cases h3 : k.kind = 3
  · have HF : Hid (r = ((k.n == 0) && ((k.s.toList == []) && (((m : Int) == (n : Int)) && z)))) := by unfold Hid; rw [HR.out, if_neg h1, if_neg h2, if_neg h4, if_pos h3, hd0]
    have e3 : (k.kind == 3) = true := by rw [beq_iff_eq]; exact h3
    clear HR h1 h2 h4 h3 CN
    cases hx : (k.n == 0)
    · go_enter Tryd.func35, Tryd.ntmps35
      go_wp2_with fail
      rw [← hW]
      (first | go_ret | go_ret2)
      exact ⟨by rw [HF.out, hx]; rfl, B0.out⟩
    · cases hs : (k.s.toList == [])
      · go_enter Tryd.func35, Tryd.ntmps35
        go_wp2_with fail
        rw [← hW]
        (first | go_ret | go_ret2)
        exact ⟨by rw [HF.out, hx, hs]; rfl, B0.out⟩
      · cases hm : ((m : Int) == (n : Int))
        · go_enter Tryd.func35, Tryd.ntmps35
          go_wp2_with fail
          rw [← hW]
          (first | go_ret | go_ret2)
          exact ⟨by rw [HF.out, hx, hs, hm]; rfl, B0.out⟩
        · go_enter Tryd.func35, Tryd.ntmps35
          go_wp2_with fail
          rw [← hW]
          refine C.out.mono ?_
          rintro e w1 ⟨rfl, h1⟩
          have HB := Lib.hid (B0.out.trans (h1.mono B0.out.size))
          clear h1 C
          go_wp2_with fail
          (first | go_ret | go_ret2)
          exact ⟨by rw [HF.out, hx, hs, hm]; rfl, HB.out⟩
  have e3 : (k.kind == 3) = false := by rw [beq_eq_false_iff_ne]; exact h3
  have HF : Hid (r = false) := by unfold Hid; rw [HR.out, if_neg h1, if_neg h2, if_neg h4, if_neg h3]
  clear HR h1 h2 h3 h4 C CN
  go_enter Tryd.func35, Tryd.ntmps35
  go_wp2_with fail
  rw [← hW]
  (first | go_ret | go_ret2)
  exact ⟨by rw [HF.out]; rfl, B0.out⟩

set_option maxHeartbeats 4000000 in
set_option maxRecDepth 100000 in
theorem rightc_any (p : Vl) (w : World) (An : Option Addr) (cn : Nat) (A : Option Addr) (c : Nat)
    (C0 : ∀ w', Below w.heap.size w w' → Calls Tryd.prog 13 #[vv p An cn A c] w' fun e w2 => e = .returned (.bool p.right) ∧ Below w'.heap.size w' w2) :
    Calls Tryd.prog 37 (#[vv p An cn A c] ++ #[]) w fun e w' => e = .returned (.bool (!p.right)) ∧ Below w.heap.size w w' := by
  have b0 := bel1 w (.cells (varr p.hd An p.names.length cn A p.parts.length c) 34)
  have C := Lib.hid (C0 _ b0)
  have B0 := Lib.hid b0
  have rc := (RowB.new w 34 (varr p.hd An p.names.length cn A p.parts.length c)).cell
  generalize p.right = b at *
  clear C0 b0
  obtain ⟨k, ns, ps⟩ := p
  simp only [hd_mk, names_mk, parts_mk] at C B0 rc ⊢
  go_enter Tryd.func37, Tryd.ntmps37
  go_wp2_with fail
  refine C.out.mono ?_
  rintro e w1 ⟨rfl, h1⟩
  have HB := Lib.hid (B0.out.trans (h1.mono B0.out.size))
  clear h1 C rc
  go_wp2_with fail
  (first | go_ret | go_ret2)
  exact ⟨rfl, HB.out⟩
set_option maxHeartbeats 4000000 in
set_option maxRecDepth 100000 in
theorem pright_step (ps : List Vl) (hl : ps.length ≤ 1000001)
    (IH : ∀ p ∈ ps, ∀ (w : World) (P : Nat → Prop) (An : Option Addr) (cn : Nat) (A : Option Addr) (c : Nat), VI w P p An cn A c → Calls Tryd.prog 13 #[vv p An cn A c] w fun e w' => e = .returned (.bool p.right) ∧ Below w.heap.size w w')
    (w : World) (P : Nat → Prop) (k : VH) (ns : List ByteArray) (hn : ns.length ≤ 1000001) (An : Option Addr) (cn : Nat) (A : Option Addr) (c : Nat) (hN : NV w P ns An cn) (h : VV w P ps A c) (r : Bool) (hr : r = (ownB k ns ps.length && ps.all Vl.right)) :
    Calls Tryd.prog 13 #[.agg (varr k An ns.length cn A ps.length c)] w fun e w' => e = .returned (.bool r) ∧ Below w.heap.size w w' := by
  have R0 := Lib.hid (RowB.new w 34 (varr k An ns.length cn A ps.length c))
  have B0 := Lib.hid (bel1 w (.cells (varr k An ns.length cn A ps.length c) 34))
  have C1 := Lib.hid (own_any _ k ns P An cn A ps.length c (hN.below B0.out) hn)
  have HT := Lib.hid (h.below B0.out)
  have HI := Lib.hid IH
  have rc := R0.out.cell
  have HR := Lib.hid hr
  obtain ⟨b, hb⟩ : ∃ b, b = ownB k ns ps.length := ⟨_, rfl⟩
  rw [← hb] at C1
  have HR : Hid (r = (b && ps.all Vl.right)) := by unfold Hid; rw [HR.out, ← hb]
  clear h hN IH hr hb hn
  go_enter Tryd.func13, Tryd.ntmps13
  go_wp2_with fail
  refine C1.out.mono ?_
  rintro e w1 ⟨rfl, h1⟩
  have HB1 := Lib.hid (B0.out.trans (h1.mono B0.out.size))
  cases b
  · clear h1 C1 rc
    go_wp2_with fail
    (first | go_ret | go_ret2)
    exact ⟨by rw [HR.out]; rfl, HB1.out⟩
  · have C := Lib.hid (containsf_any w1 (.func (.func 37) #[] #[]) ps (fun p => !p.right) P A c ⟨37, #[], rfl, fun _ _ => rfl, fun p hp w' P An cn A c _ hk => rightc_any p w' An cn A c fun w2 hb => HI.out p hp w2 P An cn A c (hk.below hb)⟩ (HT.out.below h1) hl)
    have R1 := R0.out.below h1 R0.out.lt
    have rd := R1.cell
    have HR : Hid (r = !(ps.any fun p => !p.right)) := by unfold Hid; rw [HR.out, Bool.true_and, List.all_eq_not_any_not]
    generalize (ps.any fun p => !p.right) = b2 at C HR
    clear h1 C1 rc R1
    go_wp2_with fail
    refine C.out.mono ?_
    rintro e w2 ⟨rfl, h2⟩
    have HB := Lib.hid h2
    clear h2 C rd
    go_wp2_with fail
    (first | go_ret | go_ret2)
    exact ⟨by rw [HR.out]; rfl, HB1.out.trans (HB.out.mono HB1.out.size)⟩
theorem pright_any : ∀ t : Vl, t.cnt ≤ 1000001 → ∀ (w : World) (P : Nat → Prop) (An : Option Addr) (cn : Nat) (A : Option Addr) (c : Nat), VI w P t An cn A c → Calls Tryd.prog 13 #[vv t An cn A c] w fun e w' => e = .returned (.bool t.right) ∧ Below w.heap.size w w' := by
  refine Vl.ind fun k ns ps ih hc w P An cn A c h => ?_
  rw [Vl.cnt] at hc
  exact pright_step ps (by have := cntL_len ps; omega) (fun p hp => ih p hp (by have := cnt_mem hp; omega)) w P k ns (by omega) An cn A c (VI_iff.1 h).1 (VI_iff.1 h).2 _ (by rw [Vl.right, rightL_all])

end Vm
end Go.Proofs.YtbjlhdjcdinmhaaDoor
