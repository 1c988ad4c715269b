/- Contracts: the document's reader: what has no parts, or is within signs. -/
import Derived.Test.YtnefnnoleeeedaaMAF
namespace Go.Proofs.Ytnefnnoleeeedaa
open Go.RowKit
namespace Ps

theorem entries_end {l : List Tok} {f : Nat} {first : Bool} {b : Int} {i : Nat} {r : Fo × Nat × Int} (h : exM l f (.entries first) b i = some r) (hc : ¬ (b < 0 ∧ ¬ (first = true ∧ isM l i sShut = true))) : r = (.nil, i, b) := by
  cases f with
  | zero => rw [exM] at h; cases h
  | succ f => rw [exM, if_neg hc] at h; injection h with h; exact h.symm
theorem entries_go {l : List Tok} {f : Nat} {first : Bool} {b : Int} {i : Nat} {r : Fo × Nat × Int} (h : exM l f (.entries first) b i = some r) (hc : b < 0 ∧ ¬ (first = true ∧ isM l i sShut = true)) :
    ∃ f' t, f = f' + 1 ∧ exM l f' .expr (wantM l (wordM l b ⟨27, i, 0, e0, 0⟩ i).2.2 (wordM l b ⟨27, i, 0, e0, 0⟩ i).2.1 sCol).2 (wantM l (wordM l b ⟨27, i, 0, e0, 0⟩ i).2.2 (wordM l b ⟨27, i, 0, e0, 0⟩ i).2.1 sCol).1 = some t ∧
      ((0 ≤ t.2.2 ∨ isM l t.2.1 sShut = true) → r = (.one { (wordM l b ⟨27, i, 0, e0, 0⟩ i).1 with til := t.2.1 } t.1, t.2.1, t.2.2)) ∧
      (¬ (0 ≤ t.2.2 ∨ isM l t.2.1 sShut = true) → ∃ r', exM l f' (.entries false) (wantM l t.2.2 t.2.1 sCom).2 (wantM l t.2.2 t.2.1 sCom).1 = some r' ∧ r = ((Fo.one { (wordM l b ⟨27, i, 0, e0, 0⟩ i).1 with til := t.2.1 } t.1).app r'.1, r'.2)) := by
  cases f with
  | zero => rw [exM] at h; cases h
  | succ f =>
    rw [exM, if_pos hc] at h
    obtain ⟨t, h1, h2⟩ := Option.bind_eq_some_iff.1 h
    refine ⟨f, t, rfl, h1, fun hh => ?_, fun hh => ?_⟩
    · rw [if_pos hh] at h2; injection h2 with h2; exact h2.symm
    · rw [if_neg hh] at h2
      obtain ⟨r', h3, h4⟩ := Option.map_eq_some_iff.1 h2
      exact ⟨r', h3, h4.symm⟩

set_option maxHeartbeats 16000000 in
set_option maxRecDepth 100000 in
theorem atom_c (X : Cx) (f : Nat) (hf : f ≤ 1000000) (IE : ∀ f', f' ≤ f → ExC X f' .expr 100) (IL : LamC X f) : ExC X (f + 1) .atom 104 := by
  intro b i w r hr hS hi
  have hle := hS.wf.le
  have WF := Lib.hid hS.wf
  have hrb := hS.row.lt
  have rr := hS.row.cell
  have LS0 := Lib.hid (LS.start hS)
  obtain ⟨j, hj⟩ : ∃ j, j = i + 1 := ⟨_, rfl⟩
  have e1 : IntKind.i64.wrap ((i : Int) + 1) = (j : Int) := by rw [IntKind.wrap_i64]; omega
  rw [exM, ← hj] at hr
  by_cases hb : 0 ≤ b
  · have hb2 : b ≥ 0 := hb
    rw [if_pos hb] at hr
    injection hr with hr
    subst hr
    have L0 := Lib.hid ((LS0.out.alloc w.heap.size rfl 25 zc).alloc (w.heap.size + 1) (by simp) 25 (nc ⟨0, i, j, e0, i⟩ none 0 0))
    clear hS hb hj
    go_enter Try.func104, Try.ntmps104
    go_wp2
    refine bodyPost_ret ?_ rfl ⟨⟨0, 0, 0, e0, 0⟩, .nil, none, 0, rfl, rfl, KV.nil _ _ _ _, L0.out.st, L0.out.fr, hi⟩
    simp [results, Try.results104, go_sem, e0, Fo.len]
  have hb2 : ¬ b ≥ 0 := by omega
  rw [if_neg hb] at hr
  obtain ⟨g, eg, lg, hc⟩ := hS.toks
  obtain ⟨c0, c1, c2, c3⟩ := hc i hi
  have hcap := hS.cap
  have hkg := kindAt_get hi
  have htg := textAt_get hi
  have hnk := Lib.hid (hS.wf.next i hi)
  have hil : (i : Int) < (X.l.length : Int) := by omega
  have hlg : g < w.heap.size := by omega
  rw [hkg, htg] at hr
  generalize X.l[i] = t at *
  obtain ⟨tk, ta, tl, tx⟩ := t
  dsimp only at *
  rw [eg] at rr
  have HR := Lib.hid hr
  have fin : ∀ kd : Nat, Hid (LS X w (((w.alloc (.cells (nc ⟨kd, i, j, tx, i⟩ none 0 0) 25)).alloc (.cells (nc ⟨kd, i, j, tx, i⟩ none 0 0) 25)).alloc (.cells #[.int .i64 tk, .int .i64 ta, .string tl, .string tx] 53)) b [(w.heap.size + 2, 53, #[.int .i64 tk, .int .i64 ta, .string tl, .string tx]), (w.heap.size + 1, 25, nc ⟨kd, i, j, tx, i⟩ none 0 0), (w.heap.size, 25, nc ⟨kd, i, j, tx, i⟩ none 0 0)] [] (.slice none 0 0) .nil) := fun kd =>
    ((LS0.out.alloc w.heap.size rfl 25 (nc ⟨kd, i, j, tx, i⟩ none 0 0)).alloc (w.heap.size + 1) (by simp) 25 (nc ⟨kd, i, j, tx, i⟩ none 0 0)).alloc (w.heap.size + 2) (by simp) 53 #[.int .i64 tk, .int .i64 ta, .string tl, .string tx]
  have FIN := Lib.hid fin
  have L0 := Lib.hid (((LS0.out.alloc w.heap.size rfl 25 zc).alloc (w.heap.size + 1) (by simp) 25 (nc ⟨0, i, j, tx, i⟩ none 0 0)).alloc (w.heap.size + 2) (by simp) 53 #[.int .i64 tk, .int .i64 ta, .string tl, .string tx])
  clear hr hc hkg htg fin hb
  by_cases k3 : tk = 3
  · have hr := HR.out
    rw [if_pos k3] at hr
    injection hr with hr
    subst hr
    have hjl : j < X.l.length := by have := hnk.out (by omega); omega
    have L := FIN.out 21
    have d3 : ((tk : Int) == 3) = true := by rw [beq_iff_eq]; omega
    have HL := Lib.hid L
    clear hS k3 HR FIN L hj
    go_enter Try.func104, Try.ntmps104
    go_wp2
    refine bodyPost_ret ?_ rfl ⟨⟨21, i, j, tx, i⟩, .nil, none, 0, rfl, rfl, KV.nil _ _ _ _, HL.out.st, HL.out.fr, hjl⟩
    simp [results, Try.results104, go_sem, Fo.len]
  by_cases k4 : tk = 4
  · have hr := HR.out
    rw [if_neg k3, if_pos k4] at hr
    injection hr with hr
    subst hr
    have hjl : j < X.l.length := by have := hnk.out (by omega); omega
    have L := FIN.out 22
    have d3 : ((tk : Int) == 3) = false := by rw [beq_eq_false_iff_ne]; omega
    have d4 : ((tk : Int) == 4) = true := by rw [beq_iff_eq]; omega
    have HL := Lib.hid L
    clear hS k3 k4 HR FIN L hj
    go_enter Try.func104, Try.ntmps104
    go_wp2
    refine bodyPost_ret ?_ rfl ⟨⟨22, i, j, tx, i⟩, .nil, none, 0, rfl, rfl, KV.nil _ _ _ _, HL.out.st, HL.out.fr, hjl⟩
    simp [results, Try.results104, go_sem, Fo.len]
  by_cases k1 : tk = 1
  · have hr := HR.out
    rw [if_neg k3, if_neg k4, if_pos k1] at hr
    injection hr with hr
    subst hr
    have hjl : j < X.l.length := by have := hnk.out (by omega); omega
    have L := FIN.out 23
    have d3 : ((tk : Int) == 3) = false := by rw [beq_eq_false_iff_ne]; omega
    have d4 : ((tk : Int) == 4) = false := by rw [beq_eq_false_iff_ne]; omega
    have d1 : ((tk : Int) == 1) = true := by rw [beq_iff_eq]; omega
    have HL := Lib.hid L
    clear hS k3 k4 k1 HR FIN L hj
    go_enter Try.func104, Try.ntmps104
    go_wp2
    refine bodyPost_ret ?_ rfl ⟨⟨23, i, j, tx, i⟩, .nil, none, 0, rfl, rfl, KV.nil _ _ _ _, HL.out.st, HL.out.fr, hjl⟩
    simp [results, Try.results104, go_sem, Fo.len]
  have hr := HR.out
  rw [if_neg k3, if_neg k4, if_neg k1] at hr
  have d3 : ((tk : Int) == 3) = false := by rw [beq_eq_false_iff_ne]; omega
  have d4 : ((tk : Int) == 4) = false := by rw [beq_eq_false_iff_ne]; omega
  have d1 : ((tk : Int) == 1) = false := by rw [beq_eq_false_iff_ne]; omega
  have ISK := Lib.hid (fun (x : ByteArray) w' h => is_any X b i x w' h hi)
  have HR := Lib.hid hr
  have n0 := (L0.out.row 0 rfl).cell
  clear hS k3 k4 k1 FIN hr
  have ci := ISK.out ⟨#[105, 110, 112, 117, 116]⟩ _ L0.out.st
  cases qi : isM X.l i kInput
  case true =>
    have hr := HR.out
    rw [if_pos qi] at hr
    injection hr with hr
    subst hr
    have hjl := isM_next WF.out qi
    rw [← hj] at hjl
    rw [show isM X.l i (⟨#[105, 110, 112, 117, 116]⟩ : ByteArray).data.toList = true from qi] at ci
    have CI := Lib.hid ci
    clear ci qi HR hj
    go_enter Try.func104, Try.ntmps104
    go_wp2_with fail
    refine CI.out.mono ?_
    rintro e w1 ⟨rfl, hb1⟩
    have L1 := Lib.hid (L0.out.other hb1)
    clear hb1 n0
    have Lz := Lib.hid (L1.out.put6 2 rfl rfl (.int .i64 24) (.int .i64 i) (.int .i64 j) (.string e0) (.int .i64 0) (.slice none 0 0))
    have r7 := (L1.out.row 2 rfl).cell
    have t7 := (L1.out.row 2 rfl).thaw
    go_wp2
    refine bodyPost_ret ?_ rfl ⟨⟨24, i, j, e0, 0⟩, .nil, none, 0, rfl, rfl, ?_, Lz.out.st, Lz.out.fr, hjl⟩
    · simp [results, Try.results104, go_sem, e0, r7, Fo.len]
    · exact KV.nil _ _ _ _
  case false =>
  rw [show isM X.l i (⟨#[105, 110, 112, 117, 116]⟩ : ByteArray).data.toList = false from qi] at ci
  have CI := Lib.hid ci
  have hr := HR.out
  rw [if_neg (by rw [qi]; simp)] at hr
  have HR := Lib.hid hr
  have HJ := Lib.hid hj
  clear hr ci qi hj
  go_enter Try.func104, Try.ntmps104
  go_wp2_with fail
  refine CI.out.mono ?_
  rintro e w1 ⟨rfl, hb1⟩
  have L1 := Lib.hid (L0.out.other hb1)
  clear hb1 n0 rr
  have cp := ISK.out ⟨#[40]⟩ _ L1.out.st
  cases qp : isM X.l i sParO
  case true =>
    have hr := HR.out
    rw [if_pos qp] at hr
    obtain ⟨⟨xf, p1, q1⟩, hx, hr2⟩ := Option.bind_eq_some_iff.1 hr
    obtain ⟨⟨p2, q2⟩, hy⟩ : ∃ y, y = wantM X.l q1 p1 sParS := ⟨_, rfl⟩
    dsimp only at hr2
    rw [← hy] at hr2
    injection hr2 with hr2
    subst hr2
    have hjl := isM_next WF.out qp
    rw [← HJ.out] at hjl
    rw [show isM X.l i (⟨#[40]⟩ : ByteArray).data.toList = true from qp] at cp
    have CP := Lib.hid cp
    have C2 : Hid (∀ w', St X w' b → Calls Try.prog 100 #[X.p, .int .i64 j] w' fun e w'' => NodeP X w' (xf, p1, q1) e w'') := fun w' h => IE f (Nat.le_refl _) b j w' _ hx h hjl
    have C3 : Hid (p1 < X.l.length → ∀ w', St X w' q1 → Calls Try.prog 83 #[X.p, .int .i64 p1, .string ⟨#[41]⟩] w' fun e w'' => AtP X w' (p2, q2) e w'') := fun hl w' h => by rw [hy]; exact want_any X q1 p1 ⟨#[41]⟩ w' h hl
    clear cp qp hx hy HR hr
    go_wp2_with fail
    refine CP.out.mono ?_
    rintro e w2 ⟨rfl, hb2'⟩
    have L2 := Lib.hid (L1.out.other hb2')
    clear hb2'
    go_wp2_with fail
    refine (C2.out _ L2.out.st).mono ?_
    rintro e w3 ⟨h5, k5, A5, c5, e5, rfl, hK5, hS5, hF5, hl5⟩
    dsimp only at e5 hS5 hl5
    subst e5
    obtain ⟨z1, z2, z3, z4, z5⟩ := h5
    have L3 := Lib.hid ((L2.out.kid hS5 hF5 hK5).alloc w3.heap.size rfl 25 (nc ⟨z1, z2, z3, z4, z5⟩ A5 k5.len c5))
    clear hS5 hF5 hK5
    go_wp2_with fail
    refine (C3.out hl5 _ L3.out.st).mono ?_
    rintro e w4 ⟨rfl, hS6, hF6, hl6⟩
    have L4 := Lib.hid (L3.out.step hS6 hF6)
    have L5 := Lib.hid (L4.out.slice w4.heap.size rfl (k := .one ⟨z1, z2, z3, z4, z5⟩ k5) (cs := nc ⟨z1, z2, z3, z4, z5⟩ A5 k5.len c5) (FC.one (L4.out.kidP 0 rfl)))
    have m3 := (L4.out.row 0 rfl).cell
    clear hS6 hF6
    go_wp2_with fail
    refine (ended_any ⟨25, i, 0, e0, 0⟩ none 0 0 p2 (some ⟨w4.heap.size, 0, none⟩) 1 1 _).mono ?_
    rintro e w5 ⟨rfl, hb5⟩
    have L6 := Lib.hid (L5.out.other hb5).drop
    clear hb5 m3
    have Lz := Lib.hid (L6.out.put6 2 rfl rfl (.int .i64 25) (.int .i64 i) (.int .i64 p2) (.string e0) (.int .i64 0) (.slice (some ⟨w4.heap.size, 0, none⟩) 1 1))
    have r7 := (L6.out.row 2 rfl).cell
    have t7 := (L6.out.row 2 rfl).thaw
    go_wp2
    refine bodyPost_ret ?_ rfl ⟨⟨25, i, p2, e0, 0⟩, (.one ⟨z1, z2, z3, z4, z5⟩ k5), (some ⟨w4.heap.size, 0, none⟩), 1, rfl, rfl, ?_, Lz.out.st, Lz.out.fr, hl6⟩
    · simp [results, Try.results104, go_sem, e0, r7]
      rfl
    · exact (Lz.out.kidP 0 rfl).new_ (fun g h => h.1)
  case false =>
  rw [show isM X.l i (⟨#[40]⟩ : ByteArray).data.toList = false from qp] at cp
  have CP := Lib.hid cp
  have hr := HR.out
  rw [if_neg (by rw [qp]; simp)] at hr
  have HR := Lib.hid hr
  clear hr cp qp
  go_wp2_with fail
  refine CP.out.mono ?_
  rintro e w2 ⟨rfl, hb2'⟩
  have L2 := Lib.hid (L1.out.other hb2')
  clear hb2'
  have co := ISK.out ⟨#[123]⟩ _ L2.out.st
  cases qo : isM X.l i sOpen
  case false =>
    have hr := HR.out
    rw [if_neg (by rw [qo]; simp)] at hr
    obtain ⟨⟨p1, q1⟩, hy1⟩ : ∃ y, y = wantM X.l b i kFn := ⟨_, rfl⟩
    rw [← hy1] at hr
    obtain ⟨⟨xf, p2, q2⟩, hx, hr2⟩ := Option.bind_eq_some_iff.1 hr
    injection hr2 with hr2
    subst hr2
    rw [show isM X.l i (⟨#[123]⟩ : ByteArray).data.toList = false from qo] at co
    have CO := Lib.hid co
    have W1 : Hid (∀ w', St X w' b → Calls Try.prog 83 #[X.p, .int .i64 i, .string ⟨#[102, 110]⟩] w' fun e w'' => AtP X w' (p1, q1) e w'') := fun w' h => by rw [hy1]; exact want_any X b i ⟨#[102, 110]⟩ w' h hi
    have C2 : Hid (p1 < X.l.length → ∀ w', St X w' q1 → Calls Try.prog 84 #[X.p, .int .i64 p1] w' fun e w'' => NodesP X w' (xf, p2, q2) e w'') := fun hl w' h => IL q1 p1 w' _ hx h hl
    clear co qo hx hy1 HR hr
    go_wp2_with fail
    refine CO.out.mono ?_
    rintro e w3 ⟨rfl, hb3⟩
    have L3 := Lib.hid (L2.out.other hb3)
    clear hb3
    go_wp2_with fail
    refine (W1.out _ L3.out.st).mono ?_
    rintro e w4 ⟨rfl, hS4, hF4, hl4⟩
    have L4 := Lib.hid (L3.out.step hS4 hF4)
    clear hS4 hF4
    go_wp2_with fail
    refine (C2.out hl4 _ L4.out.st).mono ?_
    rintro e w5 ⟨A5, c5, rfl, hK5, hS5, hF5, hl5⟩
    dsimp only at hS5 hl5 hK5
    have L5 := Lib.hid (L4.out.kid hS5 hF5 hK5)
    clear hS5 hF5 hK5
    go_wp2_with fail
    refine (ended_any ⟨28, i, 0, e0, 0⟩ none 0 0 p2 A5 xf.len c5 _).mono ?_
    rintro e w6 ⟨rfl, hb6⟩
    have L6 := Lib.hid (L5.out.other hb6)
    clear hb6
    have Lz := Lib.hid (L6.out.put6 2 rfl rfl (.int .i64 28) (.int .i64 i) (.int .i64 p2) (.string e0) (.int .i64 0) (.slice A5 xf.len c5))
    have r7 := (L6.out.row 2 rfl).cell
    have t7 := (L6.out.row 2 rfl).thaw
    go_wp2
    refine bodyPost_ret ?_ rfl ⟨⟨28, i, p2, e0, 0⟩, xf, A5, c5, rfl, rfl, ?_, Lz.out.st, Lz.out.fr, hl5⟩
    · simp [results, Try.results104, go_sem, e0, r7]
    · exact (Lz.out.kidP 0 rfl).new_ (fun g h => h.1)
  case true =>
  have hr := HR.out
  rw [if_pos qo] at hr
  obtain ⟨⟨xf, xi, xb⟩, hx, hr2⟩ := Option.bind_eq_some_iff.1 hr
  obtain ⟨⟨yi, yb⟩, hy⟩ : ∃ y, y = wantM X.l xb xi sShut := ⟨_, rfl⟩
  dsimp only at hr2
  rw [← hy] at hr2
  injection hr2 with hr2
  subst hr2
  have hjl := isM_next WF.out qo
  rw [← HJ.out] at hjl
  rw [show isM X.l i (⟨#[123]⟩ : ByteArray).data.toList = true from qo] at co
  have CO := Lib.hid co
  have HX := Lib.hid hx
  have WT : Hid (∀ w', St X w' xb → xi < X.l.length → Calls Try.prog 83 #[X.p, .int .i64 xi, .string ⟨#[125]⟩] w' fun e w'' => AtP X w' (yi, yb) e w'') := fun w' h hl => by rw [hy]; exact want_any X xb xi ⟨#[125]⟩ w' h hl
  clear co qo hx hy HR hr ISK
  go_wp2_with fail
  refine CO.out.mono ?_
  rintro e w3 ⟨rfl, hb3⟩
  have L3 := Lib.hid (L2.out.other hb3)
  clear hb3
  go_wp2_with fail
  go_loopg [6, 11] (f + 1) (fun kx s6 s9 wr => ∃ (fk ik : Nat) (bk : Int) (Kk : Fo) (rk : Fo × Nat × Int) (u : Value), u = s9 ∧ s6 = .int .i64 ik ∧ fk ≤ kx ∧ Kk.len + fk ≤ f ∧ ik < X.l.length ∧ Hid (exM X.l fk (.entries (decide (Kk.len = 0))) bk ik = some rk) ∧ Hid (xf = Kk.app rk.1 ∧ xi = rk.2.1 ∧ xb = rk.2.2) ∧ Hid (LS X w wr bk [(w.heap.size + 2, 53, #[.int .i64 tk, .int .i64 ta, .string tl, .string tx]), (w.heap.size + 1, 25, nc ⟨0, i, j, tx, i⟩ none 0 0), (w.heap.size, 25, zc)] [] s9 Kk))
  case atStart => exact ⟨f, j, b, .nil, (xf, xi, xb), _, rfl, by go_num, by omega, by simp [Fo.len], hjl, HX.out, ⟨rfl, rfl, rfl⟩, L3.out⟩
  case round =>
    obtain ⟨fk, ik, bk, Kk, rk, u, rfl, rfl, hkx, hfk, hik, HG, HE, LK⟩ := hrel
    obtain ⟨z, hz⟩ : ∃ z : Bool, (z = true ↔ (bk < 0 ∧ ¬ (decide (Kk.len = 0) = true ∧ isM X.l ik sShut = true))) := by
      by_cases h : bk < 0 ∧ ¬ (decide (Kk.len = 0) = true ∧ isM X.l ik sShut = true)
      · exact ⟨true, by simp only [h, not_false_eq_true, and_self]⟩
      · exact ⟨false, by simp only [Bool.false_eq_true, false_iff]; exact h⟩
    have HZ := Lib.hid hz
    have rk0 := LK.out.st.row.cell
    obtain ⟨AK, cK, eK, hcK, _⟩ := LK.out.list
    obtain rfl := eK
    have ISK := Lib.hid (fun (x : ByteArray) w' h => is_any X bk ik x w' h hik)
    clear hz
    go_upto_region 26 with fail
    go_cut [108] from 93 to 147 (fun s64 wx => s64 = .bool z ∧ Hid (LS X w wx bk [(w.heap.size + 2, 53, #[.int .i64 tk, .int .i64 ta, .string tl, .string tx]), (w.heap.size + 1, 25, nc ⟨0, i, j, tx, i⟩ none 0 0), (w.heap.size, 25, zc)] [] (.slice AK Kk.len cK) Kk))
    case first =>
      by_cases h1 : bk < 0
      · by_cases h2 : Kk.len = 0
        · have d2 : ((Kk.len : Int) == 0) = true := by rw [beq_iff_eq]; omega
          have H2 := Lib.hid h2
          clear h2
          have C := ISK.out ⟨#[125]⟩ wr LK.out.st
          cases hq : isM X.l ik sShut
          · rw [show isM X.l ik (⟨#[125]⟩ : ByteArray).data.toList = false from hq] at C
            have CC := Lib.hid C
            obtain rfl : z = true := HZ.out.2 ⟨h1, by rw [hq]; simp⟩
            clear C hq
            go_wp2_with fail
            refine CC.out.mono ?_
            rintro e wq ⟨rfl, hbl⟩
            have LQ := Lib.hid (LK.out.other hbl)
            clear hbl
            go_wp2_with fail
            go_meet
            exact ⟨rfl, LQ.out⟩
          · rw [show isM X.l ik (⟨#[125]⟩ : ByteArray).data.toList = true from hq] at C
            have CC := Lib.hid C
            obtain rfl : z = false := by
              cases z
              · rfl
              · exact absurd ⟨decide_eq_true H2.out, hq⟩ (HZ.out.1 rfl).2
            clear C hq
            go_wp2_with fail
            refine CC.out.mono ?_
            rintro e wq ⟨rfl, hbl⟩
            have LQ := Lib.hid (LK.out.other hbl)
            clear hbl
            go_wp2_with fail
            go_meet
            exact ⟨rfl, LQ.out⟩
        · have d2 : ((Kk.len : Int) == 0) = false := by rw [beq_eq_false_iff_ne]; omega
          obtain rfl : z = true := HZ.out.2 ⟨h1, fun hh => h2 (of_decide_eq_true hh.1)⟩
          clear h2
          go_wp2_with fail
          go_meet
          exact ⟨rfl, LK.out⟩
      · obtain rfl : z = false := by
          cases z
          · rfl
          · exact absurd (HZ.out.1 rfl).1 h1
        go_wp2_with fail
        go_meet
        exact ⟨rfl, LK.out⟩
    case rest =>
    obtain ⟨rfl, LC⟩ := hcut
    clear LK rk0 ISK
    cases z
    · have hrk := entries_end HG.out (fun hh => by have := HZ.out.2 hh; cases this)
      obtain ⟨h1, h2, h3⟩ := HE.out
      rw [hrk, Fo.app_nil] at h1
      rw [hrk] at h2 h3
      dsimp only at h1 h2 h3
      subst h1 h2 h3
      have hxl := hik
      clear HG HE HZ hrk
      go_wp2_with fail
      refine (WT.out _ LC.out.st hxl).mono ?_
      rintro e wa ⟨rfl, hSa, hFa, hla⟩
      have La := Lib.hid (LC.out.step hSa hFa)
      clear hSa hFa
      go_wp2_with fail
      refine (ended_any ⟨26, i, 0, e0, 0⟩ none 0 0 yi AK xf.len cK _).mono ?_
      rintro e wb ⟨rfl, hbb⟩
      have Lb := Lib.hid ((La.out.other hbb).put6 2 rfl rfl (.int .i64 26) (.int .i64 i) (.int .i64 yi) (.string e0) (.int .i64 0) (.slice AK xf.len cK))
      have r7 := ((La.out.other hbb).row 2 rfl).cell
      have t7 := ((La.out.other hbb).row 2 rfl).thaw
      clear hbb
      go_wp2
      refine bodyPost_ret ?_ rfl ⟨⟨26, i, yi, e0, 0⟩, xf, AK, cK, rfl, rfl, ?_, Lb.out.st, Lb.out.fr, hla⟩
      · simp [results, Try.results104, go_sem, e0, r7]
      · exact Lb.out.kv
    · obtain ⟨hbk, hfirst⟩ := HZ.out.1 rfl
      obtain ⟨f', t, hf', hty, hstop, hmore⟩ := entries_go HG.out ⟨hbk, hfirst⟩
      obtain ⟨⟨⟨k1, f1, t1, wd1, q1⟩, a1, b1⟩, h1⟩ : ∃ r, r = wordM X.l bk ⟨27, ik, 0, e0, 0⟩ ik := ⟨_, rfl⟩
      rw [← h1] at hty hstop hmore
      dsimp only at hty hstop hmore
      obtain ⟨⟨a2, b2⟩, h2⟩ : ∃ r, r = wantM X.l b1 a1 sCol := ⟨_, rfl⟩
      rw [← h2] at hty
      obtain ⟨tf, a3, b3⟩ := t
      dsimp only at hty hstop hmore
      obtain ⟨⟨a4, b4⟩, h4⟩ : ∃ r, r = wantM X.l b3 a3 sCom := ⟨_, rfl⟩
      rw [← h4] at hmore
      dsimp only at hmore
      have C1 : Hid (∀ w', St X w' bk → Calls Try.prog 82 #[X.p, nv ⟨27, ik, 0, e0, 0⟩ none 0 0, .int .i64 ik] w' fun e w'' => WordP X w' (⟨k1, f1, t1, wd1, q1⟩, a1, b1) none 0 0 e w'') := fun w' h => by rw [h1]; exact word_any X bk _ none 0 0 ik w' h hik
      have C2 : Hid (a1 < X.l.length → ∀ w', St X w' b1 → Calls Try.prog 83 #[X.p, .int .i64 a1, .string ⟨#[58]⟩] w' fun e w'' => AtP X w' (a2, b2) e w'') := fun hl w' h => by rw [h2]; exact want_any X b1 a1 ⟨#[58]⟩ w' h hl
      have C3 : Hid (a2 < X.l.length → ∀ w', St X w' b2 → Calls Try.prog 100 #[X.p, .int .i64 a2] w' fun e w'' => NodeP X w' (tf, a3, b3) e w'') := fun hl w' h => IE f' (by omega) b2 a2 w' _ hty h hl
      have C4 : Hid (a3 < X.l.length → ∀ w', St X w' b3 → Calls Try.prog 83 #[X.p, .int .i64 a3, .string ⟨#[44]⟩] w' fun e w'' => AtP X w' (a4, b4) e w'') := fun hl w' h => by rw [h4]; exact want_any X b3 a3 ⟨#[44]⟩ w' h hl
      have C5 : Hid (a3 < X.l.length → ∀ w', St X w' b3 → Calls Try.prog 53 #[X.p, .int .i64 a3, .string ⟨#[125]⟩] w' fun e w'' => e = .returned (.bool (isM X.l a3 sShut)) ∧ Below w'.heap.size w' w'') := fun hl w' h => is_any X b3 a3 ⟨#[125]⟩ w' h hl
      have HSTOP := Lib.hid hstop
      have HMORE := Lib.hid hmore
      have HF' := Lib.hid hf'
      clear h1 h4 hty hstop hmore HG HZ hfirst hf' hbk
      go_wp2_with fail
      refine (C1.out _ LC.out.st).mono ?_
      rintro e w3 ⟨rfl, hS3, hF3, hl3⟩
      have M1 := Lib.hid ((LC.out.step hS3 hF3).alloc w3.heap.size rfl 25 (nc ⟨k1, f1, t1, wd1, q1⟩ none 0 0))
      clear hS3 hF3
      go_wp2_with fail
      refine (C2.out hl3 _ M1.out.st).mono ?_
      rintro e w4 ⟨rfl, hS4, hF4, hl4⟩
      have M2 := Lib.hid (M1.out.step hS4 hF4)
      clear hS4 hF4
      go_wp2_with fail
      refine (C3.out hl4 _ M2.out.st).mono ?_
      rintro e w5 ⟨h5, k5, A5, c5, e5, rfl, hK5, hS5, hF5, hl5⟩
      dsimp only at e5 hS5 hl5
      subst e5
      obtain ⟨hk1, hk2, hk3, hk4, hk5⟩ := h5
      have M3 := Lib.hid ((M2.out.kid hS5 hF5 hK5).alloc w5.heap.size rfl 25 (nc ⟨hk1, hk2, hk3, hk4, hk5⟩ A5 k5.len c5))
      have m1 := (M3.out.row 0 rfl).cell
      have m2 := (M3.out.row 1 rfl).cell
      clear hS5 hF5 hK5
      go_wp2_with fail
      have M4 := Lib.hid (M3.out.slice (w5.heap.size + 1) (by simp) (k := .one ⟨hk1, hk2, hk3, hk4, hk5⟩ k5) (cs := nc ⟨hk1, hk2, hk3, hk4, hk5⟩ A5 k5.len c5) (FC.one (M3.out.kidP 0 rfl)))
      refine (ended_any ⟨k1, f1, t1, wd1, q1⟩ none 0 0 a3 (some ⟨w5.heap.size + 1, 0, none⟩) 1 1 _).mono ?_
      rintro e w6 ⟨rfl, hb6⟩
      have M6 := Lib.hid ((M4.out.other hb6).other (bel1 w6 (.cells (nc ⟨k1, f1, a3, wd1, q1⟩ (some ⟨w5.heap.size + 1, 0, none⟩) 1 1) 25)))
      clear hb6 m1 m2
      obtain ⟨cs, o1, o2⟩ := M6.out.own
      have O1 := Lib.hid o1
      have O2 := Lib.hid o2
      obtain ⟨i0, hi0, hz0, hz1, hz2⟩ := info_parts info25
      have b5 := Lib.hid M6.out.size
      have b3' : Kk.len + 1 ≤ maxLen := by unfold maxLen; omega
      have b4' : (Kk.len + 1) * 72 ≤ 140737488355328 := by omega
      have CN := Lib.hid (cells_nd w6 (.int .i64 k1) (.int .i64 f1) (.int .i64 a3) (.string wd1) (.int .i64 q1) (.slice (some ⟨w5.heap.size + 1, 0, none⟩) 1 1))
      clear o1 o2
      go_wp2_with (at_builtin; refine wpList_append_at rfl (.tmp 127) (.tmp 133) 23 rfl w.heap.size 25 i0 (.agg #[.int .i64 0, .int .i64 0, .int .i64 0, .string ⟨#[]⟩, .int .i64 0, .slice none 0 0]) 6 72 Try.underlying23 hi0 hz0 hz1 hz2 rfl (by decide) _ Kk.len cs rfl O1.out ⟨w6.heap.size, 0, none⟩ 1 1 [.int .i64 k1, .int .i64 f1, .int .i64 a3, .string wd1, .int .i64 q1, .slice (some ⟨w5.heap.size + 1, 0, none⟩) 1 1] rfl rfl CN.out (one_nd ⟨k1, f1, a3, wd1, q1⟩ _ _ _) b3' b4' b5.out ?_)
      intro v' w7 hown' hgrow hat
      have M7 := Lib.hid (M6.out.push ⟨O1.out, O2.out⟩ (k := .one ⟨k1, f1, a3, wd1, q1⟩ (.one ⟨hk1, hk2, hk3, hk4, hk5⟩ k5)) (FC.one (M6.out.kidP 0 rfl)) hown' hgrow (fun j hj => by
        rcases hat j hj with h | h
        · exact .inl h
        · exact .inr (by simpa using h)))
      clear hown' hgrow hat b3' b4' b5 CN O1 O2
      have M7 := Lib.hid M7.out.drop.drop.noK
      have hKl : (Kk.app (.one ⟨k1, f1, a3, wd1, q1⟩ (.one ⟨hk1, hk2, hk3, hk4, hk5⟩ k5))).len = Kk.len + 1 := by rw [Fo.len_app]; rfl
      have HKL := Lib.hid hKl
      have n7 := M7.out.st.row.cell
      clear hKl
      by_cases hb3 : 0 ≤ b3
      · have hrk := HSTOP.out (.inl hb3)
        obtain ⟨h1, h2, h3⟩ := HE.out
        rw [hrk] at h1 h2 h3
        dsimp only at h1 h2 h3
        have hKL2 : xf.len ≤ 1000010 := by
          have := HKL.out
          rw [← h1] at this
          omega
        subst h2 h3
        obtain ⟨A7, c7, e7, hc7, hk7⟩ := M7.out.list
        rw [← h1] at e7 M7
        subst e7
        have hxl := hl5
        have hb3' : xb ≥ 0 := hb3
        clear HE HSTOP HMORE hrk h1 HKL
        go_wp2_with fail
        refine (WT.out _ M7.out.st hxl).mono ?_
        rintro e wa ⟨rfl, hSa, hFa, hla⟩
        have La := Lib.hid (M7.out.step hSa hFa)
        clear hSa hFa
        go_wp2_with fail
        refine (ended_any ⟨26, i, 0, e0, 0⟩ none 0 0 yi A7 xf.len c7 _).mono ?_
        rintro e wb ⟨rfl, hbb⟩
        have Lb := Lib.hid ((La.out.other hbb).put6 2 rfl rfl (.int .i64 26) (.int .i64 i) (.int .i64 yi) (.string e0) (.int .i64 0) (.slice A7 xf.len c7))
        have r7 := ((La.out.other hbb).row 2 rfl).cell
        have t7 := ((La.out.other hbb).row 2 rfl).thaw
        clear hbb
        go_wp2
        refine bodyPost_ret ?_ rfl ⟨⟨26, i, yi, e0, 0⟩, xf, A7, c7, rfl, rfl, ?_, Lb.out.st, Lb.out.fr, hla⟩
        · simp [results, Try.results104, go_sem, e0, r7]
        · exact Lb.out.kv
      · have hb3' : ¬ b3 ≥ 0 := by omega
        have c5' := C5.out hl5 w7 M7.out.st
        cases hq : isM X.l a3 sShut
        · obtain ⟨r', hG', hrk⟩ := HMORE.out (fun hh => by rcases hh with hh | hh; exact hb3 hh; rw [hq] at hh; cases hh)
          rw [hq] at c5'
          have CC := Lib.hid c5'
          obtain ⟨h1, h2, h3⟩ := HE.out
          rw [hrk] at h1 h2 h3
          dsimp only at h1 h2 h3
          have HE2 := Lib.hid (show xf = (Kk.app (.one ⟨k1, f1, a3, wd1, q1⟩ (.one ⟨hk1, hk2, hk3, hk4, hk5⟩ k5))).app r'.1 ∧ xi = r'.2.1 ∧ xb = r'.2.2 from ⟨by rw [h1, Fo.app_assoc], h2, h3⟩)
          have HG2 : Hid (exM X.l f' (.entries (decide ((Kk.app (.one ⟨k1, f1, a3, wd1, q1⟩ (.one ⟨hk1, hk2, hk3, hk4, hk5⟩ k5))).len = 0))) b4 a4 = some r') := by
            unfold Hid; rw [HKL.out, show decide (Kk.len + 1 = 0) = false by simp]; exact hG'
          clear HE HSTOP HMORE hrk h1 h2 h3 hG' hq c5' hb3
          go_wp2_with fail
          refine CC.out.mono ?_
          rintro e w8 ⟨rfl, hb8⟩
          have M8 := Lib.hid (M7.out.other hb8)
          clear hb8 n7
          go_wp2_with fail
          refine (C4.out hl5 _ M8.out.st).mono ?_
          rintro e w9 ⟨rfl, hS9, hF9, hl9⟩
          have M9 := Lib.hid (M8.out.step hS9 hF9)
          have hf'' := HF'.out
          have hkl := HKL.out
          clear hS9 hF9 HKL
          go_wp2_with fail
          go_roundg f'
          case measure => omega
          case rel => exact ⟨f', a4, b4, _, r', _, rfl, by go_num, by omega, by omega, hl9, HG2.out, HE2.out, M9.out⟩
        · have hrk := HSTOP.out (.inr hq)
          rw [hq] at c5'
          have CC := Lib.hid c5'
          obtain ⟨h1, h2, h3⟩ := HE.out
          rw [hrk] at h1 h2 h3
          dsimp only at h1 h2 h3
          have hKL2 : xf.len ≤ 1000010 := by
            have := HKL.out
            rw [← h1] at this
            omega
          subst h2 h3
          obtain ⟨A7, c7, e7, hc7, hk7⟩ := M7.out.list
          rw [← h1] at e7 M7
          subst e7
          have hxl := hl5
          clear HE HSTOP HMORE hrk h1 hq c5' hb3 HKL
          go_wp2_with fail
          refine CC.out.mono ?_
          rintro e w8 ⟨rfl, hb8⟩
          have M8 := Lib.hid (M7.out.other hb8)
          clear hb8 n7
          go_wp2_with fail
          refine (WT.out _ M8.out.st hxl).mono ?_
          rintro e wa ⟨rfl, hSa, hFa, hla⟩
          have La := Lib.hid (M8.out.step hSa hFa)
          clear hSa hFa
          go_wp2_with fail
          refine (ended_any ⟨26, i, 0, e0, 0⟩ none 0 0 yi A7 xf.len c7 _).mono ?_
          rintro e wb ⟨rfl, hbb⟩
          have Lb := Lib.hid ((La.out.other hbb).put6 2 rfl rfl (.int .i64 26) (.int .i64 i) (.int .i64 yi) (.string e0) (.int .i64 0) (.slice A7 xf.len c7))
          have r7 := ((La.out.other hbb).row 2 rfl).cell
          have t7 := ((La.out.other hbb).row 2 rfl).thaw
          clear hbb
          go_wp2
          refine bodyPost_ret ?_ rfl ⟨⟨26, i, yi, e0, 0⟩, xf, A7, c7, rfl, rfl, ?_, Lb.out.st, Lb.out.fr, hla⟩
          · simp [results, Try.results104, go_sem, e0, r7]
          · exact Lb.out.kv
end Ps
end Go.Proofs.Ytnefnnoleeeedaa

/- Contracts: the document's reader: all that may hold expressions; a def. -/
namespace Go.Proofs.Ytnefnnoleeeedaa
open Go.RowKit
namespace Ps

/-- What is left to show: a statement. -/
def StmtOk (X : Cx) : Prop := ∀ f, f ≤ 1000000 → (∀ f', f' ≤ f → ExC X f' .expr 100) → (∀ f', f' ≤ f → ExC X f' .block 95) → ExC X (f + 1) .stmt 99
structure AllC (X : Cx) (f : Nat) : Prop where
  expr : ExC X f .expr 100
  sum : ExC X f .sum 101
  term : ExC X f .term 102
  post : ExC X f .post 103
  atom : ExC X f .atom 104
  lam : LamC X f
  block : ExC X f .block 95
  stmt : ExC X f .stmt 99
theorem none_c {X : Cx} {t : XT} {fn : Nat} : ExC X 0 t fn := fun b i w r h => by rw [exM] at h; cases h
theorem all_c (X : Cx) (hst : StmtOk X) : ∀ f, f ≤ 1000000 → AllC X f := by
  intro f
  induction f using Nat.strongRecOn with
  | _ f IH =>
  intro hf
  cases f with
  | zero => exact ⟨none_c, none_c, none_c, none_c, none_c, fun b i w r h => (by rw [exM] at h; cases h), none_c, none_c⟩
  | succ f =>
    have I := fun f' (h : f' ≤ f) => IH f' (by omega) (by omega)
    have I0 := I f (Nat.le_refl _)
    exact ⟨expr_c X f I0.sum, sum_c X f (fun f' h => (I f' h).term), term_c X f (fun f' h => (I f' h).post),
      post_c X f (by omega) I0.atom (fun f' h => (I f' h).expr), atom_c X f (by omega) (fun f' h => (I f' h).expr) I0.lam,
      lambda_c X f (by omega) I0.block, block_c X f (by omega) (fun f' h => (I f' h).stmt),
      hst f (by omega) (fun f' h => (I f' h).expr) (fun f' h => (I f' h).block)⟩

set_option maxHeartbeats 8000000 in
set_option maxRecDepth 100000 in
theorem def_c (X : Cx) (f : Nat) (IL : LamC X f) (b : Int) (i : Nat) (w : World) (r : Fo × Nat × Int) (hr : defM X.l f b i = some r) (hS : St X w b) (hi : i < X.l.length) :
    Calls Try.prog 55 #[X.p, .int .i64 i] w fun e w' => NodeP X w r e w' := by
  have L0 := Lib.hid ((LS.start hS).alloc w.heap.size rfl 25 zc)
  have hle := hS.wf.le
  have hrb := hS.row.lt
  unfold defM at hr
  obtain ⟨⟨p1, q1⟩, h1⟩ : ∃ y, y = wantM X.l b i kDef := ⟨_, rfl⟩
  obtain ⟨⟨⟨k1, f1, t1, wd1, u1⟩, p2, q2⟩, h2⟩ : ∃ r, r = wordM X.l q1 ⟨3, i, 0, e0, 0⟩ p1 := ⟨_, rfl⟩
  dsimp only at hr
  rw [← h1] at hr
  dsimp only at hr
  rw [← h2] at hr
  dsimp only at hr
  obtain ⟨⟨xf, p3, q3⟩, hx, hr2⟩ := Option.bind_eq_some_iff.1 hr
  injection hr2 with hr2
  subst hr2
  have W1 : Hid (∀ w', St X w' b → Calls Try.prog 83 #[X.p, .int .i64 i, .string ⟨#[100, 101, 102]⟩] w' fun e w'' => AtP X w' (p1, q1) e w'') := fun w' h => by rw [h1]; exact want_any X b i ⟨#[100, 101, 102]⟩ w' h hi
  have C2 : Hid (p1 < X.l.length → ∀ w', St X w' q1 → Calls Try.prog 82 #[X.p, nv ⟨3, i, 0, e0, 0⟩ none 0 0, .int .i64 p1] w' fun e w'' => WordP X w' (⟨k1, f1, t1, wd1, u1⟩, p2, q2) none 0 0 e w'') := fun hl w' h => by rw [h2]; exact word_any X q1 _ none 0 0 p1 w' h hl
  have C3 : Hid (p2 < X.l.length → ∀ w', St X w' q2 → Calls Try.prog 84 #[X.p, .int .i64 p2] w' fun e w'' => NodesP X w' (xf, p3, q3) e w'') := fun hl w' h => IL q2 p2 w' _ hx h hl
  clear hS hx h1 h2 hr
  go_enter Try.func55, Try.ntmps55
  go_wp2_with fail
  refine (W1.out _ L0.out.st).mono ?_
  rintro e w1 ⟨rfl, hS1, hF1, hl1⟩
  have L1 := Lib.hid (L0.out.step hS1 hF1)
  clear hS1 hF1
  go_wp2_with fail
  refine (C2.out hl1 _ L1.out.st).mono ?_
  rintro e w2 ⟨rfl, hS2, hF2, hl2⟩
  have L2 := Lib.hid ((L1.out.step hS2 hF2).alloc w2.heap.size rfl 25 (nc ⟨k1, f1, t1, wd1, u1⟩ none 0 0))
  clear hS2 hF2
  go_wp2_with fail
  refine (C3.out hl2 _ L2.out.st).mono ?_
  rintro e w3 ⟨A5, c5, rfl, hK5, hS5, hF5, hl5⟩
  dsimp only at hS5 hl5 hK5
  have L3 := Lib.hid (L2.out.kid hS5 hF5 hK5)
  have m3 := (L3.out.row 0 rfl).cell
  clear hS5 hF5 hK5
  go_wp2_with fail
  refine (ended_any ⟨k1, f1, t1, wd1, u1⟩ none 0 0 p3 A5 xf.len c5 _).mono ?_
  rintro e w4 ⟨rfl, hb4⟩
  have L4 := Lib.hid ((L3.out.other hb4).put6 1 rfl rfl (.int .i64 k1) (.int .i64 f1) (.int .i64 p3) (.string wd1) (.int .i64 u1) (.slice A5 xf.len c5))
  have r7 := ((L3.out.other hb4).row 1 rfl).cell
  have t7 := ((L3.out.other hb4).row 1 rfl).thaw
  clear hb4 m3
  go_wp2
  refine bodyPost_ret ?_ rfl ⟨⟨k1, f1, p3, wd1, u1⟩, xf, A5, c5, rfl, rfl, ?_, L4.out.st, L4.out.fr, hl5⟩
  · simp [results, Try.results55, go_sem, r7]
  · exact (L4.out.kidP 0 rfl).new_ (fun g h => h.1)
end Ps
end Go.Proofs.Ytnefnnoleeeedaa

/- Contracts: the document's reader: if, while. -/
namespace Go.Proofs.Ytnefnnoleeeedaa
open Go.RowKit
namespace Ps

set_option maxHeartbeats 8000000 in
set_option maxRecDepth 100000 in
theorem stmt_while (X : Cx) (f : Nat) (IE : ExC X f .expr 100) (IB : ExC X f .block 95) (b : Int) (i : Nat) (w : World) (r : Fo × Nat × Int) (hr : exM X.l (f + 1) .stmt b i = some r) (hS : St X w b) (hi : i < X.l.length) (q0 : isM X.l i kIf = false) (q1 : isM X.l i kWhile = true) :
    Calls Try.prog 99 #[X.p, .int .i64 i] w fun e w' => NodeP X w r e w' := by
  have hle := hS.wf.le
  have hrb := hS.row.lt
  have hnx := isM_next hS.wf q1
  obtain ⟨j, hj⟩ : ∃ j, j = i + 1 := ⟨_, rfl⟩
  have e1 : IntKind.i64.wrap ((i : Int) + 1) = (j : Int) := by rw [IntKind.wrap_i64]; omega
  rw [exM, if_neg (by rw [q0]; simp), if_pos q1, ← hj] at hr
  rw [← hj] at hnx
  obtain ⟨⟨cf, p1, b1⟩, hc, hr⟩ := Option.bind_eq_some_iff.1 hr
  obtain ⟨⟨kf, p2, b2⟩, hk, hr⟩ := Option.bind_eq_some_iff.1 hr
  injection hr with hr
  subst hr
  dsimp only at hk
  have L0 := Lib.hid (((LS.start hS).alloc w.heap.size rfl 25 zc).alloc (w.heap.size + 1) (by simp) 25 (nc ⟨13, i, 0, e0, 0⟩ none 0 0))
  have I0 : Hid (∀ w', St X w' b → Calls Try.prog 53 #[X.p, .int .i64 i, .string ⟨#[105, 102]⟩] w' fun e w'' => e = .returned (.bool false) ∧ Below w'.heap.size w' w'') := fun w' h => by rw [← q0]; exact is_any X b i ⟨#[105, 102]⟩ w' h hi
  have I1 : Hid (∀ w', St X w' b → Calls Try.prog 53 #[X.p, .int .i64 i, .string ⟨#[119, 104, 105, 108, 101]⟩] w' fun e w'' => e = .returned (.bool true) ∧ Below w'.heap.size w' w'') := fun w' h => by rw [← q1]; exact is_any X b i ⟨#[119, 104, 105, 108, 101]⟩ w' h hi
  have C1 : Hid (∀ w', St X w' b → Calls Try.prog 100 #[X.p, .int .i64 j] w' fun e w'' => NodeP X w' (cf, p1, b1) e w'') := fun w' h => IE b j w' _ hc h hnx
  have C2 : Hid (p1 < X.l.length → ∀ w', St X w' b1 → Calls Try.prog 95 #[X.p, .int .i64 p1] w' fun e w'' => NodeP X w' (kf, p2, b2) e w'') := fun hl w' h => IB b1 p1 w' _ hk h hl
  clear hS hc hk hj q0 q1
  go_enter Try.func99, Try.ntmps99
  go_wp2_with fail
  refine (I0.out _ L0.out.st).mono ?_
  rintro e w1 ⟨rfl, hb1⟩
  have L1 := Lib.hid (L0.out.other hb1)
  clear hb1
  go_wp2_with fail
  refine (I1.out _ L1.out.st).mono ?_
  rintro e w2 ⟨rfl, hb2⟩
  have L2 : Hid (LS X w (w2.setCell ⟨w.heap.size + 1, 0, none⟩ (.int .i64 10)) b [(w.heap.size + 1, 25, nc ⟨10, i, 0, e0, 0⟩ none 0 0), (w.heap.size, 25, zc)] [] (.slice none 0 0) .nil) := (L1.out.other hb2).set 0 rfl 0 (.int .i64 10)
  have m2 := ((L1.out.other hb2).row 0 rfl).cell
  have t2 := ((L1.out.other hb2).row 0 rfl).thaw
  clear hb2
  go_wp2_with fail
  refine (I0.out _ L2.out.st).mono ?_
  rintro e w3 ⟨rfl, hb3⟩
  have L3 := Lib.hid (L2.out.other hb3)
  clear hb3 m2 t2
  go_wp2_with fail
  refine (C1.out _ L3.out.st).mono ?_
  rintro e w4 ⟨h3, k3, A3, c3, e3, rfl, hK3, hS3, hF3, hl3⟩
  dsimp only at e3 hS3 hl3
  subst e3
  obtain ⟨y1, y2, y3, y4, y5⟩ := h3
  have L4 := Lib.hid ((L3.out.kid hS3 hF3 hK3).alloc w4.heap.size rfl 25 (nc ⟨y1, y2, y3, y4, y5⟩ A3 k3.len c3))
  clear hS3 hF3 hK3
  go_wp2_with fail
  refine (C2.out hl3 _ L4.out.st).mono ?_
  rintro e w5 ⟨h4, k4, A4, c4, e4, rfl, hK4, hS4, hF4, hl4⟩
  dsimp only at e4 hS4 hl4
  subst e4
  obtain ⟨z1, z2, z3, z4, z5⟩ := h4
  have L5 := Lib.hid ((L4.out.kid hS4 hF4 hK4).alloc w5.heap.size rfl 25 (nc ⟨z1, z2, z3, z4, z5⟩ A4 k4.len c4))
  have L6 := Lib.hid (L5.out.slice (w5.heap.size + 1) (by simp) (cs := #[.int .i64 y1, .int .i64 y2, .int .i64 y3, .string y4, .int .i64 y5, .slice A3 k3.len c3, .int .i64 z1, .int .i64 z2, .int .i64 z3, .string z4, .int .i64 z5, .slice A4 k4.len c4]) (KV.slice2 (h1 := ⟨y1, y2, y3, y4, y5⟩) (h2 := ⟨z1, z2, z3, z4, z5⟩) (L5.out.kidP 1 rfl) (L5.out.kidP 0 rfl)))
  have m4 := (L5.out.row 0 rfl).cell
  have m5 := (L5.out.row 1 rfl).cell
  have m6 := (L6.out.row 2 rfl).cell
  clear hS4 hF4 hK4
  go_wp2_with fail
  refine (ended_any ⟨10, i, 0, e0, 0⟩ none 0 0 p2 (some ⟨w5.heap.size + 1, 0, none⟩) 2 2 _).mono ?_
  rintro e wz ⟨rfl, hbz⟩
  have Lz := Lib.hid ((L6.out.other hbz).put6 3 rfl rfl (.int .i64 10) (.int .i64 i) (.int .i64 p2) (.string e0) (.int .i64 0) (.slice (some ⟨w5.heap.size + 1, 0, none⟩) 2 2))
  have r7 := ((L6.out.other hbz).row 3 rfl).cell
  have t7 := ((L6.out.other hbz).row 3 rfl).thaw
  clear hbz
  go_wp2
  refine bodyPost_ret ?_ rfl ⟨⟨10, i, p2, e0, 0⟩, (Fo.one ⟨y1, y2, y3, y4, y5⟩ k3).app (.one ⟨z1, z2, z3, z4, z5⟩ k4), (some ⟨w5.heap.size + 1, 0, none⟩), 2, rfl, rfl, ?_, Lz.out.st, Lz.out.fr, hl4⟩
  · simp [results, Try.results99, go_sem, e0, r7]
    rfl
  · exact (Lz.out.kidP 0 rfl).new_ (fun g h => h.1)

set_option maxHeartbeats 8000000 in
set_option maxRecDepth 100000 in
theorem stmt_if (X : Cx) (f : Nat) (IE : ExC X f .expr 100) (IB : ExC X f .block 95) (b : Int) (i : Nat) (w : World) (r : Fo × Nat × Int) (hr : exM X.l (f + 1) .stmt b i = some r) (hS : St X w b) (hi : i < X.l.length) (q0 : isM X.l i kIf = true) :
    Calls Try.prog 99 #[X.p, .int .i64 i] w fun e w' => NodeP X w r e w' := by
  have hle := hS.wf.le
  have WF := Lib.hid hS.wf
  have hrb := hS.row.lt
  have hnx := isM_next hS.wf q0
  obtain ⟨j, hj⟩ : ∃ j, j = i + 1 := ⟨_, rfl⟩
  have e1 : IntKind.i64.wrap ((i : Int) + 1) = (j : Int) := by rw [IntKind.wrap_i64]; omega
  rw [exM, if_pos q0, ← hj] at hr
  rw [← hj] at hnx
  obtain ⟨⟨cf, p1, b1⟩, hc, hr⟩ := Option.bind_eq_some_iff.1 hr
  obtain ⟨⟨kf, p2, b2⟩, hk, hr⟩ := Option.bind_eq_some_iff.1 hr
  dsimp only at hk hr
  have HR := Lib.hid hr
  have L0 := Lib.hid (((LS.start hS).alloc w.heap.size rfl 25 zc).alloc (w.heap.size + 1) (by simp) 25 (nc ⟨13, i, 0, e0, 0⟩ none 0 0))
  have I0 : Hid (∀ w', St X w' b → Calls Try.prog 53 #[X.p, .int .i64 i, .string ⟨#[105, 102]⟩] w' fun e w'' => e = .returned (.bool true) ∧ Below w'.heap.size w' w'') := fun w' h => by rw [← q0]; exact is_any X b i ⟨#[105, 102]⟩ w' h hi
  have C1 : Hid (∀ w', St X w' b → Calls Try.prog 100 #[X.p, .int .i64 j] w' fun e w'' => NodeP X w' (cf, p1, b1) e w'') := fun w' h => IE b j w' _ hc h hnx
  have C2 : Hid (p1 < X.l.length → ∀ w', St X w' b1 → Calls Try.prog 95 #[X.p, .int .i64 p1] w' fun e w'' => NodeP X w' (kf, p2, b2) e w'') := fun hl w' h => IB b1 p1 w' _ hk h hl
  clear hS hc hk hj q0 hr
  go_enter Try.func99, Try.ntmps99
  go_wp2_with fail
  refine (I0.out _ L0.out.st).mono ?_
  rintro e w1 ⟨rfl, hb1⟩
  have L2 : Hid (LS X w (w1.setCell ⟨w.heap.size + 1, 0, none⟩ (.int .i64 10)) b [(w.heap.size + 1, 25, nc ⟨10, i, 0, e0, 0⟩ none 0 0), (w.heap.size, 25, zc)] [] (.slice none 0 0) .nil) := (L0.out.other hb1).set 0 rfl 0 (.int .i64 10)
  have m2 := ((L0.out.other hb1).row 0 rfl).cell
  have t2 := ((L0.out.other hb1).row 0 rfl).thaw
  clear hb1
  go_wp2_with fail
  refine (I0.out _ L2.out.st).mono ?_
  rintro e w3 ⟨rfl, hb3⟩
  have L3 := Lib.hid (L2.out.other hb3)
  clear hb3 m2 t2
  go_wp2_with fail
  refine (C1.out _ L3.out.st).mono ?_
  rintro e w4 ⟨h3, k3, A3, c3, e3, rfl, hK3, hS3, hF3, hl3⟩
  dsimp only at e3 hS3 hl3
  subst e3
  obtain ⟨y1, y2, y3, y4, y5⟩ := h3
  have L4 := Lib.hid ((L3.out.kid hS3 hF3 hK3).alloc w4.heap.size rfl 25 (nc ⟨y1, y2, y3, y4, y5⟩ A3 k3.len c3))
  clear hS3 hF3 hK3
  go_wp2_with fail
  refine (C2.out hl3 _ L4.out.st).mono ?_
  rintro e w5 ⟨h4, k4, A4, c4, e4, rfl, hK4, hS4, hF4, hl4⟩
  dsimp only at e4 hS4 hl4
  subst e4
  obtain ⟨z1, z2, z3, z4, z5⟩ := h4
  have L5 := Lib.hid ((L4.out.kid hS4 hF4 hK4).alloc w5.heap.size rfl 25 (nc ⟨z1, z2, z3, z4, z5⟩ A4 k4.len c4))
  have L6 := Lib.hid (L5.out.lit (cs := #[.int .i64 y1, .int .i64 y2, .int .i64 y3, .string y4, .int .i64 y5, .slice A3 k3.len c3, .int .i64 z1, .int .i64 z2, .int .i64 z3, .string z4, .int .i64 z5, .slice A4 k4.len c4]) (KV.slice2 (h1 := ⟨y1, y2, y3, y4, y5⟩) (h2 := ⟨z1, z2, z3, z4, z5⟩) (L5.out.kidP 1 rfl) (L5.out.kidP 0 rfl)) (w5.heap.size + 1) (by simp) (show 2 ≤ maxLen by unfold maxLen; omega))
  obtain ⟨Kc, hKc⟩ : ∃ Kc, Kc = (Fo.one ⟨y1, y2, y3, y4, y5⟩ k3).app (.one ⟨z1, z2, z3, z4, z5⟩ k4) := ⟨_, rfl⟩
  have HKC := Lib.hid hKc
  have L7 : Hid (LS X w ((((w5.alloc (.cells (nc ⟨z1, z2, z3, z4, z5⟩ A4 k4.len c4) 25)).alloc (.cells #[.int .i64 y1, .int .i64 y2, .int .i64 y3, .string y4, .int .i64 y5, .slice A3 k3.len c3, .int .i64 z1, .int .i64 z2, .int .i64 z3, .string z4, .int .i64 z5, .slice A4 k4.len c4] 25)).setCell ⟨w.heap.size + 1, 0, none⟩ (.int .i64 9)).alloc (.cells zc 25)) b2 [(w5.heap.size + 2, 25, zc), (w5.heap.size, 25, nc ⟨z1, z2, z3, z4, z5⟩ A4 k4.len c4), (w4.heap.size, 25, nc ⟨y1, y2, y3, y4, y5⟩ A3 k3.len c3), (w.heap.size + 1, 25, nc ⟨9, i, 0, e0, 0⟩ none 0 0), (w.heap.size, 25, zc)] [(k4, A4, c4), (k3, A3, c3)] (.slice (some ⟨w5.heap.size + 1, 0, none⟩) 2 2) Kc) := by
    rw [hKc]
    exact (L6.out.set 2 rfl 0 (.int .i64 9)).alloc (w5.heap.size + 2) (by simp [World.setCell]) 25 zc
  have hK2 : Hid (Kc.len = 2) := by rw [hKc]; rfl
  have m4 := (L5.out.row 0 rfl).cell
  have m5 := (L5.out.row 1 rfl).cell
  have m6 := (L6.out.row 2 rfl).cell
  have t6 := (L6.out.row 2 rfl).thaw
  have n7 := L7.out.st.row.cell
  clear hS4 hF4 hK4 hKc
  obtain ⟨z, hz⟩ : ∃ z : Bool, (z = true ↔ (b2 < 0 ∧ isM X.l p2 kElse = true)) := by
    by_cases h : b2 < 0 ∧ isM X.l p2 kElse = true
    · exact ⟨true, fun _ => h, fun _ => rfl⟩
    · exact ⟨false, by simp only [Bool.false_eq_true, false_iff]; exact h⟩
  have HZ := Lib.hid hz
  clear hz
  have ISK := Lib.hid (fun (x : ByteArray) w' h => is_any X b2 p2 x w' h hl4)
  go_upto_region 13 with fail
  go_cut [59] from 49 (fun s59 wx => s59 = .bool z ∧ Hid (LS X w wx b2 [(w5.heap.size + 2, 25, zc), (w5.heap.size, 25, nc ⟨z1, z2, z3, z4, z5⟩ A4 k4.len c4), (w4.heap.size, 25, nc ⟨y1, y2, y3, y4, y5⟩ A3 k3.len c3), (w.heap.size + 1, 25, nc ⟨9, i, 0, e0, 0⟩ none 0 0), (w.heap.size, 25, zc)] [(k4, A4, c4), (k3, A3, c3)] (.slice (some ⟨w5.heap.size + 1, 0, none⟩) 2 2) Kc))
  case first =>
    by_cases hb : b2 < 0
    · have cm := ISK.out ⟨#[101, 108, 115, 101]⟩ _ L7.out.st
      cases q : isM X.l p2 kElse
      · rw [show isM X.l p2 (⟨#[101, 108, 115, 101]⟩ : ByteArray).data.toList = false from q] at cm
        have CM := Lib.hid cm
        obtain rfl : z = false := by
          cases z
          · rfl
          · have h := (HZ.out.1 rfl).2
            rw [q] at h; cases h
        clear cm q m4 m5 m6 t6
        go_wp2_with fail
        refine CM.out.mono ?_
        rintro e wm ⟨rfl, hbm⟩
        have LM := Lib.hid (L7.out.other hbm)
        clear hbm
        go_wp2_with fail
        go_meet
        exact ⟨rfl, LM.out⟩
      · rw [show isM X.l p2 (⟨#[101, 108, 115, 101]⟩ : ByteArray).data.toList = true from q] at cm
        have CM := Lib.hid cm
        obtain rfl : z = true := HZ.out.2 ⟨hb, q⟩
        clear cm q m4 m5 m6 t6
        go_wp2_with fail
        refine CM.out.mono ?_
        rintro e wm ⟨rfl, hbm⟩
        have LM := Lib.hid (L7.out.other hbm)
        clear hbm
        go_wp2_with fail
        go_meet
        exact ⟨rfl, LM.out⟩
    · obtain rfl : z = false := by
        cases z
        · rfl
        · exact absurd (HZ.out.1 rfl).1 hb
      clear m4 m5 m6 t6
      go_wp2_with fail
      go_meet
      exact ⟨rfl, L7.out⟩
  case rest =>
  obtain ⟨rfl, LC⟩ := hcut
  clear m4 m5 m6 t6 n7
  cases z
  · have hr := HR.out
    rw [if_neg (fun hh => by have := HZ.out.2 hh; cases this)] at hr
    injection hr with hr
    subst hr
    have m8 := (LC.out.row 0 rfl).cell
    have M6 := Lib.hid (LC.out.other (bel1 wc (.cells (nc ⟨0, 0, 0, e0, 0⟩ none 0 0) 25)))
    have hk2 := hK2.out
    have h2m : Kc.len + 1 ≤ maxLen := by unfold maxLen; omega
    have h2b : (Kc.len + 1) * 72 ≤ 140737488355328 := by omega
    clear hk2 HZ HR
    obtain ⟨cs, o1, o2⟩ := M6.out.own
    have O1 := Lib.hid o1
    have O2 := Lib.hid o2
    obtain ⟨i0, hi0, hz0, hz1, hz2⟩ := info_parts info25
    have b5 := Lib.hid M6.out.size
    have b3' := h2m
    have b4' := h2b
    have CN := Lib.hid (cells_nd wc (.int .i64 (0 : Nat)) (.int .i64 (0 : Nat)) (.int .i64 (0 : Nat)) (.string e0) (.int .i64 (0 : Nat)) (.slice none 0 0))
    clear o1 o2
    go_wp2_with (at_builtin; refine wpList_append_at rfl (.tmp 67) (.tmp 69) 23 rfl w.heap.size 25 i0 (.agg #[.int .i64 (0 : Nat), .int .i64 (0 : Nat), .int .i64 (0 : Nat), .string ⟨#[]⟩, .int .i64 (0 : Nat), .slice none 0 0]) 6 72 Try.underlying23 hi0 hz0 hz1 hz2 rfl (by decide) _ Kc.len cs rfl O1.out ⟨wc.heap.size, 0, none⟩ 1 1 [.int .i64 (0 : Nat), .int .i64 (0 : Nat), .int .i64 (0 : Nat), .string e0, .int .i64 (0 : Nat), .slice none 0 0] rfl rfl CN.out (one_nd ⟨0, 0, 0, e0, 0⟩ _ _ _) b3' b4' b5.out ?_)
    intro v' w7 hown' hgrow hat
    have M7 := Lib.hid (M6.out.push ⟨O1.out, O2.out⟩ (k := .one ⟨0, 0, 0, e0, 0⟩ .nil) (FC.one (KV.nil _ _ _ _)) hown' hgrow (fun j hj => by
      rcases hat j hj with h | h
      · exact .inl h
      · exact .inr (by simpa using h)))
    clear hown' hgrow hat b3' b4' b5 CN O1 O2
    obtain ⟨Kd, hKd⟩ : ∃ Kd, Kd = Kc.app (.one ⟨0, 0, 0, e0, 0⟩ .nil) := ⟨_, rfl⟩
    rw [← hKd] at M7
    have HKD := Lib.hid hKd
    clear hKd
    obtain ⟨A7, c7, e7, _, _⟩ := M7.out.list
    subst e7
    have m9 := (M7.out.row 3 rfl).cell
    clear m8
    go_wp2_with fail
    refine (ended_any ⟨9, i, 0, e0, 0⟩ none 0 0 p2 A7 Kd.len c7 _).mono ?_
    rintro e wz ⟨rfl, hbz⟩
    have Lz := Lib.hid ((M7.out.other hbz).put6 4 rfl rfl (.int .i64 9) (.int .i64 i) (.int .i64 p2) (.string e0) (.int .i64 0) (.slice A7 Kd.len c7))
    have r7 := ((M7.out.other hbz).row 4 rfl).cell
    have t7 := ((M7.out.other hbz).row 4 rfl).thaw
    clear hbz
    go_wp2
    refine bodyPost_ret ?_ rfl ⟨⟨9, i, p2, e0, 0⟩, Kd, A7, c7, by rw [HKD.out, HKC.out, Fo.app_assoc]; rfl, rfl, ?_, Lz.out.st, Lz.out.fr, hl4⟩
    · simp [results, Try.results99, go_sem, e0, r7]
    · exact Lz.out.kv
  · obtain ⟨hb, q⟩ := HZ.out.1 rfl
    have hr := HR.out
    rw [if_pos ⟨hb, q⟩] at hr
    obtain ⟨⟨of, p3, b3⟩, ho, hr⟩ := Option.bind_eq_some_iff.1 hr
    injection hr with hr
    subst hr
    have hn2 := isM_next WF.out q
    obtain ⟨j2, hj2⟩ : ∃ j2, j2 = p2 + 1 := ⟨_, rfl⟩
    rw [← hj2] at ho hn2
    have e2 : IntKind.i64.wrap ((p2 : Int) + 1) = (j2 : Int) := by rw [IntKind.wrap_i64]; omega
    have C3 : Hid (∀ w', St X w' b2 → Calls Try.prog 95 #[X.p, .int .i64 j2] w' fun e w'' => NodeP X w' (of, p3, b3) e w'') := fun w' h => IB b2 j2 w' _ ho h hn2
    clear ho hj2 HZ HR hb q
    go_wp2_with fail
    refine (C3.out _ LC.out.st).mono ?_
    rintro e w6 ⟨h5, k5, A5, c5, e5, rfl, hK5, hS5, hF5, hl5⟩
    dsimp only at e5 hS5 hl5
    subst e5
    obtain ⟨u1, u2, u3, u4, u5⟩ := h5
    have L8 := Lib.hid ((LC.out.kid hS5 hF5 hK5).put6 0 rfl rfl (.int .i64 u1) (.int .i64 u2) (.int .i64 u3) (.string u4) (.int .i64 u5) (.slice A5 k5.len c5))
    have m8 := ((LC.out.kid hS5 hF5 hK5).row 0 rfl).cell
    have t8 := ((LC.out.kid hS5 hF5 hK5).row 0 rfl).thaw
    have M6 := Lib.hid (L8.out.other (bel1 _ (.cells (nc ⟨u1, u2, u3, u4, u5⟩ A5 k5.len c5) 25)))
    have hk2 := hK2.out
    have h2m : Kc.len + 1 ≤ maxLen := by unfold maxLen; omega
    have h2b : (Kc.len + 1) * 72 ≤ 140737488355328 := by omega
    have m9 := (L8.out.row 0 rfl).cell
    clear hS5 hF5 hK5 hk2
    obtain ⟨cs, o1, o2⟩ := M6.out.own
    have O1 := Lib.hid o1
    have O2 := Lib.hid o2
    obtain ⟨i0, hi0, hz0, hz1, hz2⟩ := info_parts info25
    have b5 := Lib.hid M6.out.size
    have b3' := h2m
    have b4' := h2b
    have CN := Lib.hid (cells_nd ((((((w6.setCell ⟨w5.heap.size + 2, 0, none⟩ (.int .i64 u1)).setCell ⟨w5.heap.size + 2, 1, none⟩ (.int .i64 u2)).setCell ⟨w5.heap.size + 2, 2, none⟩ (.int .i64 u3)).setCell ⟨w5.heap.size + 2, 3, none⟩ (.string u4)).setCell ⟨w5.heap.size + 2, 4, none⟩ (.int .i64 u5)).setCell ⟨w5.heap.size + 2, 5, none⟩ (.slice A5 k5.len c5)) (.int .i64 u1) (.int .i64 u2) (.int .i64 u3) (.string u4) (.int .i64 u5) (.slice A5 k5.len c5))
    clear o1 o2
    go_wp2_with (at_builtin; refine wpList_append_at rfl (.tmp 67) (.tmp 69) 23 rfl w.heap.size 25 i0 (.agg #[.int .i64 0, .int .i64 0, .int .i64 0, .string ⟨#[]⟩, .int .i64 0, .slice none 0 0]) 6 72 Try.underlying23 hi0 hz0 hz1 hz2 rfl (by decide) _ Kc.len cs rfl O1.out ⟨w6.heap.size, 0, none⟩ 1 1 [.int .i64 u1, .int .i64 u2, .int .i64 u3, .string u4, .int .i64 u5, .slice A5 k5.len c5] rfl rfl (by simpa [World.setCell] using CN.out) (one_nd ⟨u1, u2, u3, u4, u5⟩ _ _ _) b3' b4' b5.out ?_)
    intro v' w7 hown' hgrow hat
    have M7 := Lib.hid (M6.out.push ⟨O1.out, O2.out⟩ (k := .one ⟨u1, u2, u3, u4, u5⟩ k5) (FC.one (M6.out.kidP 0 rfl)) hown' hgrow (fun j hj => by
      rcases hat j hj with h | h
      · exact .inl h
      · exact .inr (by simpa [World.setCell] using h)))
    clear hown' hgrow hat b3' b4' b5 CN O1 O2
    obtain ⟨Kd, hKd⟩ : ∃ Kd, Kd = Kc.app (.one ⟨u1, u2, u3, u4, u5⟩ k5) := ⟨_, rfl⟩
    rw [← hKd] at M7
    have HKD := Lib.hid hKd
    clear hKd
    obtain ⟨A7, c7, e7, _, _⟩ := M7.out.list
    subst e7
    have m10 := (M7.out.row 3 rfl).cell
    clear m8 m9
    go_wp2_with fail
    refine (ended_any ⟨9, i, 0, e0, 0⟩ none 0 0 p3 A7 Kd.len c7 _).mono ?_
    rintro e wz ⟨rfl, hbz⟩
    have Lz := Lib.hid ((M7.out.other hbz).put6 4 rfl rfl (.int .i64 9) (.int .i64 i) (.int .i64 p3) (.string e0) (.int .i64 0) (.slice A7 Kd.len c7))
    have r7 := ((M7.out.other hbz).row 4 rfl).cell
    have t7 := ((M7.out.other hbz).row 4 rfl).thaw
    clear hbz
    go_wp2
    refine bodyPost_ret ?_ rfl ⟨⟨9, i, p3, e0, 0⟩, Kd, A7, c7, by rw [HKD.out, HKC.out, Fo.app_assoc], rfl, ?_, Lz.out.st, Lz.out.fr, hl5⟩
    · simp [results, Try.results99, go_sem, e0, r7]
    · exact Lz.out.kv
end Ps
end Go.Proofs.Ytnefnnoleeeedaa

