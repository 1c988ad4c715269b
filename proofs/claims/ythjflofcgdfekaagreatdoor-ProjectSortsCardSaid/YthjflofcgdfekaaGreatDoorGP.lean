import Derived.Test.YthjflofcgdfekaaGreatDoorGO
namespace Go.Proofs.YthjflofcgdfekaaGreatDoor
open Go.RowKit
namespace Pg
open Ps
def RuleA (X : Cx) (P : Prop) (M : Sd → Res) (fn : Nat) (args : Array Value) : Prop := ∀ (s : Sd) (w : World) (r : Fo × Sd), (s.2 < 0 → P ∧ M s = some r) → (0 ≤ s.2 → r.2.2 = s.2) → PSt X w s → Calls Tryz.prog fn args w (NodeQ X w r)
def closeM (l : List Tok) (f kd fr : Nat) (s : Sd) : Res := (exM l f .expr s.2 s.1).bind fun v => some (.one ⟨kd, fr, (wantM l v.2.2 v.2.1 sSem).1, e0, 0⟩ v.1, wantM l v.2.2 v.2.1 sSem)
theorem close_pure {X : Cx} {P : Prop} {f kd fr : Nat} {s : Sd} {r : Fo × Sd} (h1 : s.2 < 0 → P ∧ closeM X.l f kd fr s = some r) (h2 : 0 ≤ s.2 → r.2.2 = s.2) :
    ∃ v : Fo × Sd, (s.2 < 0 → P ∧ exR X f .expr s = some v) ∧ (0 ≤ s.2 → v.2.2 = s.2) ∧ ((wantS X v.2 sSem).2 < 0 → r = (.one ⟨kd, fr, (wantS X v.2 sSem).1, e0, 0⟩ v.1, wantS X v.2 sSem)) ∧ (0 ≤ (wantS X v.2 sSem).2 → r.2.2 = (wantS X v.2 sSem).2) := by
  by_cases hs : 0 ≤ s.2
  · refine ⟨(.nil, s), fun h => absurd h (by omega), fun _ => rfl, fun h => ?_, fun _ => ?_⟩
    · dsimp only at h; rw [wantS_bad hs] at h; exact absurd h (by omega)
    · dsimp only; rw [wantS_bad hs]; exact h2 hs
  · obtain ⟨hP, h⟩ := h1 (by omega)
    unfold closeM at h
    obtain ⟨v, hv, h⟩ := Option.bind_eq_some_iff.1 h
    injection h with h
    exact ⟨v, fun _ => ⟨hP, hv⟩, fun h => absurd h hs, fun _ => h.symm, fun _ => by rw [← h]; rfl⟩
def otherM (l : List Tok) (f : Nat) (s : Sd) : Res := if s.2 < 0 ∧ isM l s.1 kElse = true then exM l f .block s.2 (s.1 + 1) else some (.zero, s)
set_option maxHeartbeats 4000000 in
set_option maxRecDepth 100000 in
theorem closed_q (X : Cx) (P : Prop) (f : Nat) (IE : RuleQ X P (exR X f .expr) 268) (kd fr : Nat) : RuleA X P (closeM X.l f kd fr) 270 #[X.p, .int .i64 kd, .int .i64 fr] := by
  intro s w r hr1 hr2 hS
  have L0 := Lib.hid ((LS.start hS).alloc w.heap.size rfl 38 zcc)
  have hrb := hS.lt
  have hl := hS.len
  obtain ⟨v, hv1, hv2, hrt, hbt⟩ := close_pure hr1 hr2
  obtain ⟨s3, hs3⟩ : ∃ s3, s3 = wantS X v.2 sSem := ⟨_, rfl⟩
  rw [← hs3] at hrt hbt
  have HS3 := Lib.hid hs3
  have HR2 := Lib.hid hrt
  have HB := Lib.hid hbt
  have C1 : Hid (∀ w', PSt X w' s → Calls Tryz.prog 268 #[X.p] w' (NodeQ X w' v)) := fun w' h => IE s w' v hv1 hv2 h
  clear hr1 hr2 hv1 hv2 hrt hbt hs3 hS IE
  go_enter Tryz.func270, Tryz.ntmps270
  go_wp2_with fail
  refine (C1.out _ L0.out.st).mono ?_
  rintro e wb ⟨h1, k1, A1, c1, rfl, hKw, hSw, hFw, hN1⟩
  obtain ⟨x11, x12, x13, x14, x15⟩ := h1
  have LB := Lib.hid (L0.out.kid hSw hFw hKw)
  have HN1 := Lib.hid hN1
  clear hSw hFw hKw hN1
  have LC := Lib.hid (LB.out.alloc wb.heap.size rfl 38 (ncc ⟨x11, x12, x13, x14, x15⟩ A1 k1.len c1))
  clear C1
  have CW := Lib.hid (want_any X v.2 ⟨#[59]⟩ _ LC.out.st (by decide))
  go_wp2_with fail
  refine CW.out.mono ?_
  rintro e wd ⟨rfl, hSw, hFw⟩
  have LD0 := Lib.hid (LC.out.step hSw hFw)
  clear hSw hFw CW
  have LD : Hid (LS X w wd s3 [(wb.heap.size, 38, ncc ⟨x11, x12, x13, x14, x15⟩ A1 k1.len c1), (w.heap.size, 38, zcc)] [(k1, A1, c1)] (.slice none 0 0) .nil) := by unfold Hid; rw [HS3.out]; exact LD0.out
  have n1 := (LD.out.row 0 rfl).cell
  have LE := Lib.hid (LD.out.slice wd.heap.size rfl (k := .one ⟨x11, x12, x13, x14, x15⟩ k1) (cs := ncc ⟨x11, x12, x13, x14, x15⟩ A1 k1.len c1) (FC.one (LD.out.kidP 0 rfl)))
  have HR : Hid (s3.2 < 0 → r = (.one ⟨kd, fr, pos X s3, e0, 0⟩ (.one ⟨x11, x12, x13, x14, x15⟩ k1), s3)) := fun h => by
    have h1 : (wantS X v.2 sSem).2 < 0 := by rw [← HS3.out]; exact h
    rw [HR2.out h, HN1.out (wantS_good h1).1, pos_good h]
  clear LD0 HR2 HN1 HS3
  go_wp2_with fail
  refine (node_any X s3 kd fr (some ⟨wd.heap.size, 0, none⟩) 1 1 _ LE.out.st).mono ?_
  rintro e wf ⟨rfl, hbw⟩
  have LFb := Lib.hid (LE.out.other hbw)
  have u1 := (LFb.out.row 1 rfl).cell
  have u2 := (LFb.out.row 1 rfl).thaw
  have LF := Lib.hid (LFb.out.put6 1 rfl rfl (.int .i64 kd) (.int .i64 fr) (.int .i64 (pos X s3)) (.string e0) (.int .i64 0) (.slice (some ⟨wd.heap.size, 0, none⟩) 1 1))
  clear hbw
  go_wp2
  refine bodyPost_ret ?_ rfl ⟨⟨kd, fr, pos X s3, e0, 0⟩, (.one ⟨x11, x12, x13, x14, x15⟩ k1), some ⟨wd.heap.size, 0, none⟩, 1, rfl, (LF.out.kidP 0 rfl).new_ (fun g h => h.1), PSt.to LF.out.st (fun h => by rw [HR.out h]) HB.out, LF.out.fr, ?_⟩
  · simp [results, Tryz.results270, go_sem, u1]
    try first | rfl | exact ⟨rfl, rfl⟩
  · intro hh
    rw [HR.out (by by_cases h : (s3 : Sd).2 < 0; exact h; rw [HB.out (by omega)] at hh; exact absurd hh h)]
set_option maxHeartbeats 4000000 in
set_option maxRecDepth 100000 in
theorem other_q (X : Cx) (P : Prop) (f : Nat) (I : RuleQ X P (exR X f .block) 225) : RuleQ X P (otherM X.l f) 269 := by
  intro s w r hr1 hr2 hS
  have L0 := Lib.hid ((LS.start hS).alloc w.heap.size rfl 38 zcc)
  have hrb := hS.lt
  have hl := hS.len
  cases q1 : tk X s kElse
  · have HR : Hid (s.2 < 0 → r = (.zero, s)) := fun h => by
      have h3 := (hr1 h).2
      unfold otherM at h3
      rw [if_neg (by rintro ⟨_, hm⟩; rw [(tk_bad q1).resolve_left (by omega)] at hm; cases hm)] at h3
      injection h3 with h3; exact h3.symm
    have HB := Lib.hid hr2
    clear hr1 hr2 I hS
    go_enter Tryz.func269, Tryz.ntmps269
    have CT := Lib.hid (take_no X s ⟨#[101, 108, 115, 101]⟩ _ L0.out.st (by decide) q1)
    go_wp2_with fail
    refine CT.out.mono ?_
    rintro e w1 ⟨rfl, hSw, hFw⟩
    have L1 := Lib.hid (L0.out.step hSw hFw)
    clear hSw hFw CT
    clear q1
    have u1 := (L1.out.row 0 rfl).cell
    have u2 := (L1.out.row 0 rfl).thaw
    have LY := Lib.hid (L1.out.put6 0 rfl rfl (.int .i64 0) (.int .i64 0) (.int .i64 0) (.string ⟨#[]⟩) (.int .i64 0) (.slice none 0 0))
    go_wp2
    refine bodyPost_ret ?_ rfl ⟨⟨0, 0, 0, e0, 0⟩, .nil, none, 0, rfl, KV.nil _ _ _ _, PSt.to LY.out.st (fun h => by rw [HR.out h]) HB.out, LY.out.fr, ?_⟩
    · simp [results, Tryz.results269, go_sem, u1]
      try first | rfl | exact ⟨rfl, rfl⟩
    · intro hh
      rw [HR.out (by by_cases h : (s : Sd).2 < 0; exact h; rw [HB.out (by omega)] at hh; exact absurd hh h)]
      rfl
  · obtain ⟨hg, hm⟩ := tk_good q1
    have hP := (hr1 hg).1
    have h3 := (hr1 hg).2
    unfold otherM at h3
    rw [if_pos ⟨hg, hm⟩] at h3
    have CT2 : Hid (∀ w', PSt X w' (s.1 + 1, s.2) → Calls Tryz.prog 225 #[X.p] w' (NodeQ X w' r)) := fun w' h => I (s.1 + 1, s.2) w' r (fun _ => ⟨hP, h3⟩) (fun h => absurd h (by dsimp only; omega)) h
    clear hr1 hr2 I hS hg hm hP h3
    go_enter Tryz.func269, Tryz.ntmps269
    have CT := Lib.hid (take_yes X s ⟨#[101, 108, 115, 101]⟩ _ L0.out.st (by decide) q1)
    go_wp2_with fail
    refine CT.out.mono ?_
    rintro e w1 ⟨rfl, hSw, hFw⟩
    have L1 := Lib.hid (L0.out.step hSw hFw)
    clear hSw hFw CT
    clear q1
    go_wp2_with fail
    refine (CT2.out _ L1.out.st).mono ?_
    rintro e w2 ⟨h1, k1, A1, c1, rfl, hKw, hSw, hFw, hN1⟩
    obtain ⟨x11, x12, x13, x14, x15⟩ := h1
    have L2 := Lib.hid (L1.out.kid hSw hFw hKw)
    have HN1 := Lib.hid hN1
    clear hSw hFw hKw hN1
    have u1 := (L2.out.row 0 rfl).cell
    have u2 := (L2.out.row 0 rfl).thaw
    have LY := Lib.hid (L2.out.put6 0 rfl rfl (.int .i64 x11) (.int .i64 x12) (.int .i64 x13) (.string x14) (.int .i64 x15) (.slice A1 k1.len c1))
    clear CT2
    go_wp2
    refine bodyPost_ret ?_ rfl ⟨⟨x11, x12, x13, x14, x15⟩, k1, A1, c1, rfl, (LY.out.kidP 0 rfl).new_ (fun g h => h.1), LY.out.st, LY.out.fr, HN1.out⟩
    simp [results, Tryz.results269, go_sem, u1]
    try first | rfl | exact ⟨rfl, rfl⟩
set_option maxHeartbeats 4000000 in
set_option maxRecDepth 100000 in
theorem set_q (X : Cx) (P : Prop) (f : Nat) (IE : RuleQ X P (exR X f .expr) 268) (fr : Nat) (s : Sd) (w : World) (r v : Fo × Sd) (hP : P) (hs : s.2 < 0) (hk : kindAt X.l s.1 = 1) (hq : isM X.l (s.1 + 1) sEq = true)
    (hv : exM X.l f .expr s.2 (s.1 + 2) = some v) (hr : r = (.one ⟨8, fr, (wantS X v.2 sSem).1, textAt X.l s.1, s.1⟩ v.1, wantS X v.2 sSem)) (hS : PSt X w s) : Calls Tryz.prog 266 #[X.p, .int .i64 fr] w (NodeQ X w r) := by
  have L0 := Lib.hid ((LS.start hS).alloc w.heap.size rfl 38 zcc)
  have hrb := hS.lt
  have hl := hS.len
  obtain ⟨s3, hs3⟩ : ∃ s3, s3 = wantS X v.2 sSem := ⟨_, rfl⟩
  rw [← hs3] at hr
  have HS3 := Lib.hid hs3
  have HR2 := Lib.hid hr
  have hhas : hasK X s 1 = true := by unfold hasK; rw [decide_eq_true hs, decide_eq_true hk]; rfl
  have hwd : wordS X s = (s.1 + 1, s.2) := by rw [wordS_eq, if_pos hhas]
  have hwa : wat X s = s.1 := by unfold wat; rw [if_pos hhas]
  have hwt : wantS X (s.1 + 1, s.2) sEq = (s.1 + 2, s.2) := by
    have : tk X (s.1 + 1, s.2) sEq = true := by unfold tk; dsimp only; rw [decide_eq_true hs, hq]; rfl
    rw [wantS_eq, if_pos this]
  have hwl : s.1 < X.l.length := hS.ib hs
  obtain ⟨q, hqq⟩ : ∃ q, q = s.1 := ⟨_, rfl⟩
  have CWW := word_any X s _ L0.out.st
  rw [hwa, ← hqq, hwd] at CWW
  have CWW := Lib.hid CWW
  have CW := Lib.hid (fun w' h => want_any X (s.1 + 1, s.2) ⟨#[61]⟩ w' h (by decide))
  have C1 : Hid (∀ w', PSt X w' (s.1 + 2, s.2) → Calls Tryz.prog 268 #[X.p] w' (NodeQ X w' v)) := fun w' h => IE (s.1 + 2, s.2) w' v (fun _ => ⟨hP, hv⟩) (fun h => absurd h (by dsimp only; omega)) h
  rw [← hqq] at hwl HR2
  have HWT := Lib.hid hwt
  clear hr hs3 hS IE hP hs hk hq hv hhas hwd hwa hwt hqq
  go_enter Tryz.func266, Tryz.ntmps266
  go_wp2_with fail
  refine CWW.out.mono ?_
  rintro e w1 ⟨rfl, hSw, hFw⟩
  have L1 := Lib.hid (L0.out.step hSw hFw)
  clear hSw hFw CWW
  go_wp2_with fail
  refine (CW.out _ L1.out.st).mono ?_
  rintro e w2 ⟨rfl, hSw, hFw⟩
  have L2a := Lib.hid (L1.out.step hSw hFw)
  have L2 : Hid (LS X w w2 (s.1 + 2, s.2) [(w.heap.size, 38, zcc)] [] (.slice none 0 0) .nil) := by unfold Hid; rw [← HWT.out]; exact L2a.out
  clear hSw hFw CW L2a
  go_wp2_with fail
  refine (C1.out _ L2.out.st).mono ?_
  rintro e wb ⟨h1, k1, A1, c1, rfl, hKw, hSw, hFw, hN1⟩
  obtain ⟨x11, x12, x13, x14, x15⟩ := h1
  have LB := Lib.hid (L2.out.kid hSw hFw hKw)
  have HN1 := Lib.hid hN1
  clear hSw hFw hKw hN1
  have LC := Lib.hid (LB.out.alloc wb.heap.size rfl 38 (ncc ⟨x11, x12, x13, x14, x15⟩ A1 k1.len c1))
  clear C1
  have CW := Lib.hid (want_any X v.2 ⟨#[59]⟩ _ LC.out.st (by decide))
  go_wp2_with fail
  refine CW.out.mono ?_
  rintro e wd ⟨rfl, hSw, hFw⟩
  have LD0 := Lib.hid (LC.out.step hSw hFw)
  clear hSw hFw CW
  have LD : Hid (LS X w wd s3 [(wb.heap.size, 38, ncc ⟨x11, x12, x13, x14, x15⟩ A1 k1.len c1), (w.heap.size, 38, zcc)] [(k1, A1, c1)] (.slice none 0 0) .nil) := by unfold Hid; rw [HS3.out]; exact LD0.out
  have n1 := (LD.out.row 0 rfl).cell
  have LE := Lib.hid (LD.out.slice wd.heap.size rfl (k := .one ⟨x11, x12, x13, x14, x15⟩ k1) (cs := ncc ⟨x11, x12, x13, x14, x15⟩ A1 k1.len c1) (FC.one (LD.out.kidP 0 rfl)))
  have HR : Hid (s3.2 < 0 → r = (.one ⟨8, fr, pos X s3, textAt X.l q, q⟩ (.one ⟨x11, x12, x13, x14, x15⟩ k1), s3)) := fun h => by
    have h1 : (wantS X v.2 sSem).2 < 0 := by rw [← HS3.out]; exact h
    rw [HR2.out, HN1.out (wantS_good h1).1, pos_good h]
  have HB : Hid (0 ≤ s3.2 → r.2.2 = s3.2) := fun h => by rw [HR2.out]
  clear LD0 HR2 HN1 HS3 HWT
  go_wp2_with fail
  refine (named_any X s3 8 fr q (some ⟨wd.heap.size, 0, none⟩) 1 1 _ LE.out.st hwl).mono ?_
  rintro e wf ⟨rfl, hbw⟩
  have LFb := Lib.hid (LE.out.other hbw)
  have u1 := (LFb.out.row 1 rfl).cell
  have u2 := (LFb.out.row 1 rfl).thaw
  have LF := Lib.hid (LFb.out.put6 1 rfl rfl (.int .i64 8) (.int .i64 fr) (.int .i64 (pos X s3)) (.string (textAt X.l q)) (.int .i64 q) (.slice (some ⟨wd.heap.size, 0, none⟩) 1 1))
  clear hbw
  go_wp2
  refine bodyPost_ret ?_ rfl ⟨⟨8, fr, pos X s3, textAt X.l q, q⟩, (.one ⟨x11, x12, x13, x14, x15⟩ k1), some ⟨wd.heap.size, 0, none⟩, 1, rfl, (LF.out.kidP 0 rfl).new_ (fun g h => h.1), PSt.to LF.out.st (fun h => by rw [HR.out h]) HB.out, LF.out.fr, ?_⟩
  · simp [results, Tryz.results266, go_sem, u1]
    try first | rfl | exact ⟨rfl, rfl⟩
  · intro hh
    rw [HR.out (by by_cases h : (s3 : Sd).2 < 0; exact h; rw [HB.out (by omega)] at hh; exact absurd hh h)]
set_option maxHeartbeats 4000000 in
set_option maxRecDepth 100000 in
theorem let_q (X : Cx) (P : Prop) (f : Nat) (IE : RuleQ X P (exR X f .expr) 268) (IW : RuleQ X P (wrtR X f) 224) (fr : Nat) (s : Sd) (w : World) (r t v : Fo × Sd) (hP : P)
    (ht : typedM X.l f (wordS X s).2 (wordS X s).1 = some t) (hv : exM X.l f .expr (wantS X t.2 sEq).2 (wantS X t.2 sEq).1 = some v)
    (hr : r = (.one { (wordM X.l s.2 ⟨7, fr, 0, e0, 0⟩ s.1).1 with til := (wantS X v.2 sSem).1 } (t.1.app v.1), wantS X v.2 sSem)) (hS : PSt X w s) : Calls Tryz.prog 267 #[X.p, .int .i64 fr] w (NodeQ X w r) := by
  have L0 := Lib.hid ((LS.start hS).alloc w.heap.size rfl 38 zcc)
  have hrb := hS.lt
  have hl := hS.len
  have hwl := wat_lt hS
  obtain ⟨s3, hs3⟩ : ∃ s3, s3 = wantS X v.2 sSem := ⟨_, rfl⟩
  have hgg : s3.2 < 0 → v.2.2 < 0 ∧ t.2.2 < 0 ∧ r = (.one ⟨7, fr, s3.1, textAt X.l (wat X s), wat X s⟩ (t.1.app v.1), s3) := fun h => by
    rw [hs3] at h
    have g1 := (wantS_good h).1
    have g2 := exM_was hv g1
    have g3 := (wantS_good g2).1
    have g4 : (wordS X s).2 < 0 := by
      by_cases hh : 0 ≤ (wordS X s).2
      · have := typedM_bad hh ht; omega
      · omega
    obtain ⟨y1, y2, y3, y4⟩ := wordS_good g4
    refine ⟨g1, g3, ?_⟩
    rw [hr, y4, y2, hs3]
  have hB : 0 ≤ s3.2 → r.2.2 = s3.2 := fun h => by rw [hr, hs3]
  have HS3 := Lib.hid hs3
  have HGG := Lib.hid hgg
  have HB := Lib.hid hB
  obtain ⟨s2, hs2⟩ : ∃ s2, s2 = wantS X t.2 sEq := ⟨_, rfl⟩
  rw [← hs2] at hv
  have HS2 := Lib.hid hs2
  have CWW := Lib.hid (word_any X s _ L0.out.st)
  have CT : Hid (∀ w', PSt X w' (wordS X s) → Calls Tryz.prog 224 #[X.p] w' (NodeQ X w' t)) := fun w' h => IW (wordS X s) w' t (fun _ => ⟨hP, ht⟩) (fun h => typedM_bad h ht) h
  have C2 : Hid (∀ w', PSt X w' s2 → Calls Tryz.prog 268 #[X.p] w' (NodeQ X w' v)) := fun w' h => IE s2 w' v (fun _ => ⟨hP, hv⟩) (fun h => exM_bad _ _ _ _ _ h hv) h
  clear hr hs3 hS IE IW hP ht hv hgg hB hs2
  generalize wat X s = q at *
  generalize wordS X s = sw at *
  go_enter Tryz.func267, Tryz.ntmps267
  go_wp2_with fail
  refine CWW.out.mono ?_
  rintro e w1 ⟨rfl, hSw, hFw⟩
  have L1 := Lib.hid (L0.out.step hSw hFw)
  clear hSw hFw CWW
  go_wp2_with fail
  refine (CT.out _ L1.out.st).mono ?_
  rintro e wb ⟨h1, k1, A1, c1, rfl, hKw, hSw, hFw, hN1⟩
  obtain ⟨x11, x12, x13, x14, x15⟩ := h1
  have LB := Lib.hid (L1.out.kid hSw hFw hKw)
  have HN1 := Lib.hid hN1
  clear hSw hFw hKw hN1
  have LC := Lib.hid (LB.out.alloc wb.heap.size rfl 38 (ncc ⟨x11, x12, x13, x14, x15⟩ A1 k1.len c1))
  clear CT
  have CW := Lib.hid (want_any X t.2 ⟨#[61]⟩ _ LC.out.st (by decide))
  go_wp2_with fail
  refine CW.out.mono ?_
  rintro e wd ⟨rfl, hSw, hFw⟩
  have LD0 := Lib.hid (LC.out.step hSw hFw)
  clear hSw hFw CW
  have LD : Hid (LS X w wd s2 [(wb.heap.size, 38, ncc ⟨x11, x12, x13, x14, x15⟩ A1 k1.len c1), (w.heap.size, 38, zcc)] [(k1, A1, c1)] (.slice none 0 0) .nil) := by unfold Hid; rw [HS2.out]; exact LD0.out
  clear LD0
  go_wp2_with fail
  refine (C2.out _ LD.out.st).mono ?_
  rintro e we ⟨h2, k2, A2, c2, rfl, hKw, hSw, hFw, hN2⟩
  obtain ⟨x21, x22, x23, x24, x25⟩ := h2
  have LE := Lib.hid (LD.out.kid hSw hFw hKw)
  have HN2 := Lib.hid hN2
  clear hSw hFw hKw hN2
  have LF := Lib.hid (LE.out.alloc we.heap.size rfl 38 (ncc ⟨x21, x22, x23, x24, x25⟩ A2 k2.len c2))
  clear C2
  have CW := Lib.hid (want_any X v.2 ⟨#[59]⟩ _ LF.out.st (by decide))
  go_wp2_with fail
  refine CW.out.mono ?_
  rintro e wg ⟨rfl, hSw, hFw⟩
  have LG0 := Lib.hid (LF.out.step hSw hFw)
  clear hSw hFw CW
  have LG : Hid (LS X w wg s3 [(we.heap.size, 38, ncc ⟨x21, x22, x23, x24, x25⟩ A2 k2.len c2), (wb.heap.size, 38, ncc ⟨x11, x12, x13, x14, x15⟩ A1 k1.len c1), (w.heap.size, 38, zcc)] [(k2, A2, c2), (k1, A1, c1)] (.slice none 0 0) .nil) := by unfold Hid; rw [HS3.out]; exact LG0.out
  have n1 := (LG.out.row 0 rfl).cell
  have n2 := (LG.out.row 1 rfl).cell
  have LH := Lib.hid (LG.out.slice wg.heap.size rfl (KV.two (h1 := ⟨x11, x12, x13, x14, x15⟩) (h2 := ⟨x21, x22, x23, x24, x25⟩) (LG.out.kidP 1 rfl) (LG.out.kidP 0 rfl)))
  have HR : Hid (s3.2 < 0 → r = (.one ⟨7, fr, pos X s3, textAt X.l q, q⟩ ((Fo.one ⟨x11, x12, x13, x14, x15⟩ k1).app (.one ⟨x21, x22, x23, x24, x25⟩ k2)), s3)) := fun h => by
    obtain ⟨g1, g2, g3⟩ := HGG.out h
    rw [g3, HN1.out g2, HN2.out g1, pos_good h]
  clear LG0 HGG HN1 HN2 HS3 HS2
  go_wp2_with fail
  refine (named_any X s3 7 fr q (some ⟨wg.heap.size, 0, none⟩) 2 2 _ LH.out.st hwl).mono ?_
  rintro e wf ⟨rfl, hbw⟩
  have LIb := Lib.hid (LH.out.other hbw)
  have u1 := (LIb.out.row 2 rfl).cell
  have u2 := (LIb.out.row 2 rfl).thaw
  have LI := Lib.hid (LIb.out.put6 2 rfl rfl (.int .i64 7) (.int .i64 fr) (.int .i64 (pos X s3)) (.string (textAt X.l q)) (.int .i64 q) (.slice (some ⟨wg.heap.size, 0, none⟩) 2 2))
  clear hbw
  go_wp2
  refine bodyPost_ret ?_ rfl ⟨⟨7, fr, pos X s3, textAt X.l q, q⟩, ((Fo.one ⟨x11, x12, x13, x14, x15⟩ k1).app (.one ⟨x21, x22, x23, x24, x25⟩ k2)), some ⟨wg.heap.size, 0, none⟩, 2, rfl, (LI.out.kidP 0 rfl).new_ (fun g h => h.1), PSt.to LI.out.st (fun h => by rw [HR.out h]) HB.out, LI.out.fr, ?_⟩
  · simp [results, Tryz.results267, go_sem, u1]
    try first | rfl | exact ⟨rfl, rfl⟩
  · intro hh
    rw [HR.out (by by_cases h : (s3 : Sd).2 < 0; exact h; rw [HB.out (by omega)] at hh; exact absurd hh h)]
end Pg
end Go.Proofs.YthjflofcgdfekaaGreatDoor
