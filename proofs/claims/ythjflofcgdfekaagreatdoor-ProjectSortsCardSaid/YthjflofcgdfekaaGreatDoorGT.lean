import Derived.Test.YthjflofcgdfekaaGreatDoorGR
namespace Go.Proofs.YthjflofcgdfekaaGreatDoor
open Go.RowKit
namespace Pg
open Ps
def itemM (l : List Tok) (f : Nat) (s : Sd) : Res := if isM l s.1 kUse = true then some (useM l s.2 s.1) else defM l f s.2 s.1
def InvF (X : Cx) (P : Prop) (r : Fo × Sd) (fk : Nat) (sk : Sd) (K : Fo) : Prop :=
  (sk.2 < 0 → P ∧ ∃ q : Fo × Sd, itemsM X.l fk sk.2 sk.1 = some q ∧ r = (.one ⟨1, 0, q.2.1, e0, 0⟩ (K.app q.1), q.2)) ∧ (0 ≤ sk.2 → r.2.2 = sk.2)
abbrev fileR (X : Cx) (f : Nat) : Sd → Res := fun s => (itemsM X.l f s.2 s.1).bind fun x => some (.one ⟨1, 0, x.2.1, e0, 0⟩ x.1, x.2)
theorem items_bad {l : List Tok} {f : Nat} {b : Int} {i : Nat} {r : Fo × Nat × Int} (hb : 0 ≤ b) (h : itemsM l f b i = some r) : r.2.2 = b := by
  cases f with
  | zero => rw [itemsM] at h; cases h
  | succ f => rw [itemsM, if_neg (fun hh => by have := hh.1; omega)] at h; injection h with h; rw [← h]
theorem file_pure {X : Cx} {P : Prop} {f : Nat} {s : Sd} {r : Fo × Sd} (h1 : s.2 < 0 → P ∧ fileR X f s = some r) (h2 : 0 ≤ s.2 → r.2.2 = s.2) : InvF X P r f s .nil := by
  refine ⟨fun hs => ?_, h2⟩
  obtain ⟨hP, h⟩ := h1 hs
  obtain ⟨q, hq, h⟩ := Option.bind_eq_some_iff.1 h
  injection h with h
  exact ⟨hP, q, hq, by rw [← h]; rfl⟩
theorem InvF.stop {X : Cx} {P : Prop} {r : Fo × Sd} {fk : Nat} {sk : Sd} {K : Fo} (h : InvF X P r fk sk K) (hb : sk.2 < 0) (hm : kindAt X.l sk.1 = 0) : r = (.one ⟨1, 0, sk.1, e0, 0⟩ K, sk) := by
  obtain ⟨hP, q, hq, hr⟩ := h.1 hb
  cases fk with
  | zero => rw [itemsM] at hq; cases hq
  | succ fk =>
    rw [itemsM, if_neg (fun hh => hh.2 hm)] at hq
    injection hq with hq
    subst hq
    rw [hr, Fo.app_nil]
theorem InvF.go {X : Cx} {P : Prop} {r : Fo × Sd} {fk : Nat} {sk : Sd} {K : Fo} (h : InvF X P r fk sk K) (hb : sk.2 < 0) (hm : kindAt X.l sk.1 ≠ 0) :
    ∃ f' t, fk = f' + 1 ∧ P ∧ itemM X.l f' sk = some t ∧ ∀ h k, (t.2.2 < 0 → t.1 = .one h k) → InvF X P r f' t.2 (K.app (.one h k)) := by
  obtain ⟨hP, q, hq, hr⟩ := h.1 hb
  cases fk with
  | zero => rw [itemsM] at hq; cases hq
  | succ fk =>
    have key : ∃ t : Fo × Sd, itemM X.l fk sk = some t ∧ (itemsM X.l fk t.2.2 t.2.1).pre t.1 = some q := by
      rw [itemsM, if_pos ⟨hb, hm⟩] at hq
      unfold itemM
      split at hq
      · rename_i hu
        exact ⟨_, by rw [if_pos hu], hq⟩
      · rename_i hu
        obtain ⟨t, ht, hq⟩ := Option.bind_eq_some_iff.1 hq
        exact ⟨t, by rw [if_neg hu]; exact ht, hq⟩
    obtain ⟨t, ht, hq⟩ := key
    obtain ⟨q', hq', e⟩ := Option.map_eq_some_iff.1 hq
    refine ⟨fk, t, rfl, hP, ht, fun h k hn => ⟨fun hg => ⟨hP, q', hq', ?_⟩, fun hg => ?_⟩⟩
    · rw [hr, ← e, hn hg, Fo.app_assoc]
    · rw [hr, ← e]
      exact (items_bad hg hq' : q'.2.2 = t.2.2)
theorem it_use {l : List Tok} {f : Nat} {s : Sd} {r : Fo × Sd} (h : itemM l f s = some r) (hm : isM l s.1 kUse = true) : r = useM l s.2 s.1 := by
  unfold itemM at h
  rw [if_pos hm] at h
  injection h with h; exact h.symm
theorem it_def {X : Cx} {f p : Nat} {s : Sd} {r : Fo × Sd} (h : itemM X.l f s = some r) (hp : p = s.1) (hs : s.2 < 0) (hm : isM X.l s.1 kDef = true) :
    ∃ (f' : Nat) (pa t k : Fo × Sd), f = f' + 1 ∧ paramsM X.l f' (wordS X (s.1 + 1, s.2)).2 (wordS X (s.1 + 1, s.2)).1 = some pa ∧ typedM X.l f' pa.2.2 pa.2.1 = some t ∧ exM X.l f' .block t.2.2 t.2.1 = some k ∧
      r = (.one { (wordM X.l s.2 ⟨3, p, 0, e0, 0⟩ (s.1 + 1)).1 with til := k.2.1 } (pa.1.app (t.1.app k.1)), k.2) := by
  unfold itemM at h
  rw [if_neg (by rw [isM_ne hm (by decide)]; simp)] at h
  unfold defM at h
  have hw : wantM X.l s.2 s.1 kDef = (s.1 + 1, s.2) := by unfold wantM; rw [if_neg (by omega), if_pos hm]
  dsimp only at h
  rw [hw] at h
  dsimp only at h
  obtain ⟨x, hx, h⟩ := Option.bind_eq_some_iff.1 h
  injection h with h
  obtain ⟨f', pa, t, k, e1, e2, e3, e4, e5⟩ := lam_parts hx
  rw [wordM_snd s.2 ⟨3, s.1, 0, e0, 0⟩ ⟨0, 0, 0, e0, 0⟩ (s.1 + 1)] at e2
  exact ⟨f', pa, t, k, e1, e2, e3, e4, by rw [← h, e5, hp]⟩
theorem it_no {l : List Tok} {f : Nat} {s : Sd} {r : Fo × Sd} (h : itemM l f s = some r) (hs : s.2 < 0) (h1 : isM l s.1 kUse = false) (h2 : isM l s.1 kDef = false) : r.2.2 = (failS s).2 := by
  unfold itemM at h
  rw [if_neg (by rw [h1]; simp)] at h
  unfold defM at h
  have hw : wantM l s.2 s.1 kDef = (s.1, (s.1 : Int)) := by unfold wantM; rw [if_neg (by omega), if_neg (by rw [h2]; simp)]
  dsimp only at h
  rw [hw] at h
  have hpos : (0 : Int) ≤ (s.1 : Int) := by omega
  dsimp only at h
  rw [wordM_bad hpos] at h
  obtain ⟨x, hx, h⟩ := Option.bind_eq_some_iff.1 h
  injection h with h
  dsimp only at hx
  rw [← h]
  dsimp only
  rw [lam_bad hpos hx]
  unfold failS
  rw [if_neg (by omega)]
set_option maxHeartbeats 4000000 in
set_option maxRecDepth 100000 in
theorem use_q (X : Cx) (fr : Nat) (s : Sd) (w : World) (r : Fo × Sd) (hfr : s.1 = fr + 1) (hr : r = useM X.l s.2 fr) (hS : PSt X w s) : Calls Tryz.prog 220 #[X.p, .int .i64 fr] w (NodeQ X w r) := by
  have L0 := Lib.hid ((LS.start hS).alloc w.heap.size rfl 38 zcc)
  have hrb := hS.lt
  have hl := hS.len
  have hwl := wat_lt hS
  obtain ⟨s2, hs2⟩ : ∃ s2, s2 = wantS X (wordS X s) sDot := ⟨_, rfl⟩
  obtain ⟨s4, hs4⟩ : ∃ s4, s4 = wantS X (wordS X s2) sSem := ⟨_, rfl⟩
  have e1 : (wordM X.l s.2 ⟨23, fr + 1, 0, e0, 0⟩ (fr + 1)).2 = wordS X s := by rw [← hfr]; exact wordM_snd _ _ _ _
  have e2 : (wordM X.l s2.2 ⟨2, fr, 0, e0, 0⟩ s2.1).2 = wordS X s2 := wordM_snd _ _ _ _
  have hr' : r = (.one { (wordM X.l s2.2 ⟨2, fr, 0, e0, 0⟩ s2.1).1 with til := s4.1 } (.one { (wordM X.l s.2 ⟨23, fr + 1, 0, e0, 0⟩ (fr + 1)).1 with til := (wordS X s).1 } .nil), s4) := by
    rw [hr]
    unfold useM
    dsimp only
    rw [e1]
    have : wantM X.l (wordS X s).2 (wordS X s).1 sDot = s2 := hs2.symm
    rw [this, e2]
    have : wantM X.l (wordS X s2).2 (wordS X s2).1 sSem = s4 := hs4.symm
    rw [this]
  have hgg : s4.2 < 0 → r = (.one ⟨2, fr, s4.1, textAt X.l (wat X s2), wat X s2⟩ (.one ⟨23, wat X s, pos X (wordS X s), textAt X.l (wat X s), wat X s⟩ .nil), s4) := fun h => by
    have h4 := h
    rw [hs4] at h4
    have g3 := (wantS_good h4).1
    obtain ⟨y1, y2, y3, y4⟩ := wordS_good g3
    rw [hs2] at y1
    have g1 := (wantS_good y1).1
    obtain ⟨z1, z2, z3, z4⟩ := wordS_good g1
    rw [hr', y4, y2, ← hfr, z4, z2, pos_good g1]
  have hB : 0 ≤ s4.2 → r.2.2 = s4.2 := fun h => by rw [hr']
  have HGG := Lib.hid hgg
  have HB := Lib.hid hB
  have HS2 := Lib.hid hs2
  have HS4 := Lib.hid hs4
  have HWL2 : Hid (∀ w', PSt X w' s2 → wat X s2 < X.l.length) := fun w' h => wat_lt h
  have CWW := Lib.hid (word_any X s _ L0.out.st)
  have CW2 := Lib.hid (fun w' h => word_any X s2 w' h)
  clear hr hr' hgg hB hs2 hs4 e1 e2 hS hfr
  generalize wat X s = q at *
  generalize wat X s2 = q2 at *
  generalize wordS X s = sw at *
  generalize wordS X s2 = sw2 at *
  obtain ⟨pw, hpw⟩ : ∃ pw, pw = pos X sw := ⟨_, rfl⟩
  rw [← hpw] at HGG
  have HPW := Lib.hid hpw
  clear hpw
  go_enter Tryz.func220, Tryz.ntmps220
  go_wp2_with fail
  refine CWW.out.mono ?_
  rintro e w1 ⟨rfl, hSw, hFw⟩
  have L1 := Lib.hid (L0.out.step hSw hFw)
  clear hSw hFw CWW
  go_wp2_with fail
  refine (named_any X sw 23 q q none 0 0 _ L1.out.st hwl).mono ?_
  rw [← HPW.out]
  rintro e w2 ⟨rfl, hbw⟩
  have L2 := Lib.hid ((L1.out.other hbw).alloc w2.heap.size rfl 38 (ncc ⟨23, q, pw, textAt X.l q, q⟩ none 0 0))
  clear hbw L1
  have CW := Lib.hid (want_any X sw ⟨#[46]⟩ _ L2.out.st (by decide))
  go_wp2_with fail
  refine CW.out.mono ?_
  rintro e w3 ⟨rfl, hSw, hFw⟩
  have L3a := Lib.hid (L2.out.step hSw hFw)
  clear hSw hFw CW
  have L3 : Hid (LS X w w3 s2 [(w2.heap.size, 38, ncc ⟨23, q, pw, textAt X.l q, q⟩ none 0 0), (w.heap.size, 38, zcc)] [] (.slice none 0 0) .nil) := by unfold Hid; rw [HS2.out]; exact L3a.out
  clear L3a HS2
  go_wp2_with fail
  refine (CW2.out _ L3.out.st).mono ?_
  rintro e w4 ⟨rfl, hSw, hFw⟩
  have hwl2 := HWL2.out _ L3.out.st
  have L4 := Lib.hid (L3.out.step hSw hFw)
  clear hSw hFw CW2
  have CW := Lib.hid (want_any X sw2 ⟨#[59]⟩ _ L4.out.st (by decide))
  go_wp2_with fail
  refine CW.out.mono ?_
  rintro e w5 ⟨rfl, hSw, hFw⟩
  have L5a := Lib.hid (L4.out.step hSw hFw)
  clear hSw hFw CW
  have L5 : Hid (LS X w w5 s4 [(w2.heap.size, 38, ncc ⟨23, q, pw, textAt X.l q, q⟩ none 0 0), (w.heap.size, 38, zcc)] [] (.slice none 0 0) .nil) := by unfold Hid; rw [HS4.out]; exact L5a.out
  clear L5a HS4
  have n1 := (L5.out.row 0 rfl).cell
  have LE := Lib.hid (L5.out.slice w5.heap.size rfl (k := .one ⟨23, q, pw, textAt X.l q, q⟩ .nil) (cs := ncc ⟨23, q, pw, textAt X.l q, q⟩ none 0 0) (FC.one (KV.nil _ _ _ _)))
  have HR : Hid (s4.2 < 0 → r = (.one ⟨2, fr, pos X s4, textAt X.l q2, q2⟩ (.one ⟨23, q, pw, textAt X.l q, q⟩ .nil), s4)) := fun h => by rw [HGG.out h, pos_good h]
  clear HGG HPW HWL2
  go_wp2_with fail
  refine (named_any X s4 2 fr q2 (some ⟨w5.heap.size, 0, none⟩) 1 1 _ LE.out.st hwl2).mono ?_
  rintro e wf ⟨rfl, hbw⟩
  have LFb := Lib.hid (LE.out.other hbw)
  have u1 := (LFb.out.row 1 rfl).cell
  have u2 := (LFb.out.row 1 rfl).thaw
  have LF := Lib.hid (LFb.out.put6 1 rfl rfl (.int .i64 2) (.int .i64 fr) (.int .i64 (pos X s4)) (.string (textAt X.l q2)) (.int .i64 q2) (.slice (some ⟨w5.heap.size, 0, none⟩) 1 1))
  clear hbw
  go_wp2
  refine bodyPost_ret ?_ rfl ⟨⟨2, fr, pos X s4, textAt X.l q2, q2⟩, (.one ⟨23, q, pw, textAt X.l q, q⟩ .nil), some ⟨w5.heap.size, 0, none⟩, 1, rfl, (LF.out.kidP 0 rfl).new_ (fun g h => h.1), PSt.to LF.out.st (fun h => by rw [HR.out h]) HB.out, LF.out.fr, ?_⟩
  · simp [results, Tryz.results220, go_sem, u1]
    try first | rfl | exact ⟨rfl, rfl⟩
  · intro hh
    rw [HR.out (by by_cases h : (s4 : Sd).2 < 0; exact h; rw [HB.out (by omega)] at hh; exact absurd hh h)]
set_option maxHeartbeats 8000000 in
set_option maxRecDepth 100000 in
theorem item_q (X : Cx) (P : Prop) (f : Nat) (IP : ∀ f', f' ≤ f → RuleQ X P (parmR X f') 223) (IW : ∀ f', f' ≤ f → RuleQ X P (wrtR X f') 224) (IB : ∀ f', f' ≤ f → RuleQ X P (exR X f' .block) 225) (s : Sd) (w : World) (r : Fo × Sd) (hP : P) (hs : s.2 < 0) (hh : itemM X.l f s = some r) (hS : PSt X w s) :
    Calls Tryz.prog 171 #[X.p] w (NodeQ X w r) := by
  have L0 := Lib.hid ((LS.start hS).alloc w.heap.size rfl 38 zcc)
  have rr := hS.row.cell
  have hrb := hS.lt
  have hl := hS.len
  have hpl := hS.pos_lt
  have hp : pos X s = s.1 := pos_good hs
  rw [hp] at rr hpl
  obtain ⟨p, hpp⟩ : ∃ p, p = s.1 := ⟨_, rfl⟩
  rw [← hpp] at rr hpl
  have HP := Lib.hid hpp
  have HH := Lib.hid hh
  have HS := Lib.hid hs
  have IP := Lib.hid IP
  have IW := Lib.hid IW
  have IB := Lib.hid IB
  clear hp hpp hh hS hs
  go_enter Tryz.func171, Tryz.ntmps171
  cases q1 : tk X s kUse
  · have CT := Lib.hid (take_no X s ⟨#[117, 115, 101]⟩ _ L0.out.st (by decide) q1)
    go_wp2_with fail
    refine CT.out.mono ?_
    rintro e w1 ⟨rfl, hSw, hFw⟩
    have L1 := Lib.hid (L0.out.step hSw hFw)
    clear hSw hFw CT
    have Q1 := Lib.hid (tk_bad q1)
    clear q1
    cases q2 : tk X s kDef
    · have CT := Lib.hid (take_no X s ⟨#[100, 101, 102]⟩ _ L1.out.st (by decide) q2)
      go_wp2_with fail
      refine CT.out.mono ?_
      rintro e w2 ⟨rfl, hSw, hFw⟩
      have L2 := Lib.hid (L1.out.step hSw hFw)
      clear hSw hFw CT
      have Q2 := Lib.hid (tk_bad q2)
      clear q2
      have HFAIL : Hid (r.2.2 = (failS s).2) := it_no HH.out HS.out (Q1.out.resolve_left (by have := HS.out; omega)) (Q2.out.resolve_left (by have := HS.out; omega))
      clear Q1 Q2 HH HS HP IP IB IW
      have CF := Lib.hid (fail_any X s _ L2.out.st)
      go_wp2_with fail
      refine CF.out.mono ?_
      rintro e wz ⟨rfl, hSw, hFw⟩
      have LYb := Lib.hid (L2.out.step hSw hFw)
      have u1 := (LYb.out.row 0 rfl).cell
      have u2 := (LYb.out.row 0 rfl).thaw
      have LY := Lib.hid (LYb.out.put6 0 rfl rfl (.int .i64 0) (.int .i64 0) (.int .i64 0) (.string ⟨#[]⟩) (.int .i64 0) (.slice none 0 0))
      clear hSw hFw CF
      go_wp2
      refine bodyPost_ret ?_ rfl ⟨⟨0, 0, 0, e0, 0⟩, .nil, none, 0, rfl, KV.nil _ _ _ _, PSt.to LY.out.st (fun h => absurd h (by have := failS_bad s; omega)) (fun _ => HFAIL.out), LY.out.fr, ?_⟩
      · simp [results, Tryz.results171, go_sem, u1]
        try first | rfl | exact ⟨rfl, rfl⟩
      · intro hh
        rw [HFAIL.out] at hh
        exact absurd hh (by have := failS_bad s; omega)
    · obtain ⟨hg, hm⟩ := tk_good q2
      obtain ⟨f', pa, ty, bk, hf', hpa, hty, hbk, hr⟩ := it_def HH.out HP.out hg hm
      obtain ⟨s1, hs1⟩ : ∃ s1 : Sd, s1 = (s.1 + 1, s.2) := ⟨_, rfl⟩
      rw [← hs1] at hpa
      have CWW := Lib.hid (fun w' h => word_any X s1 w' h)
      have HWL : Hid (∀ w', PSt X w' s1 → wat X s1 < X.l.length) := fun w' h => wat_lt h
      have C1 : Hid (∀ w', PSt X w' (wordS X s1) → Calls Tryz.prog 223 #[X.p] w' (NodeQ X w' pa)) := fun w' h => IP.out f' (by omega) (wordS X s1) w' pa (fun _ => ⟨hP, hpa⟩) (fun h => paramsM_bad h hpa) h
      have C2 : Hid (∀ w', PSt X w' pa.2 → Calls Tryz.prog 224 #[X.p] w' (NodeQ X w' ty)) := fun w' h => IW.out f' (by omega) pa.2 w' ty (fun _ => ⟨hP, hty⟩) (fun h => typedM_bad h hty) h
      have C3 : Hid (∀ w', PSt X w' ty.2 → Calls Tryz.prog 225 #[X.p] w' (NodeQ X w' bk)) := fun w' h => IB.out f' (by omega) ty.2 w' bk (fun _ => ⟨hP, hbk⟩) (fun h => exM_bad _ _ _ _ _ h hbk) h
      have HG3 : Hid (bk.2.2 < 0 → ty.2.2 < 0 ∧ pa.2.2 < 0 ∧ r = (.one ⟨3, p, bk.2.1, textAt X.l (wat X s1), wat X s1⟩ (pa.1.app (ty.1.app bk.1)), bk.2)) := fun h => by
        have g2 : ty.2.2 < 0 := exM_was hbk h
        have g1 : pa.2.2 < 0 := by
          by_cases hh : 0 ≤ pa.2.2
          · have := typedM_bad hh hty; omega
          · omega
        have g0 : (wordS X s1).2 < 0 := by
          by_cases hh : 0 ≤ (wordS X s1).2
          · have := paramsM_bad hh hpa; omega
          · omega
        obtain ⟨y1, y2, y3, y4⟩ := wordS_good g0
        have y5 := y4 ⟨3, p, 0, e0, 0⟩
        rw [hs1] at y5
        refine ⟨g2, g1, ?_⟩
        rw [hr, y5, y2, hs1]
      have HB : Hid (0 ≤ bk.2.2 → r.2.2 = bk.2.2) := fun h => by rw [hr]
      clear hm hf' hpa hty hbk hr hg
      have CT := Lib.hid (take_yes X s ⟨#[100, 101, 102]⟩ _ L1.out.st (by decide) q2)
      go_wp2_with fail
      refine CT.out.mono ?_
      rintro e wa ⟨rfl, hSw, hFw⟩
      have LA0 := Lib.hid (L1.out.step hSw hFw)
      clear hSw hFw CT
      have LA : Hid (LS X w wa s1 [(w.heap.size, 38, zcc)] [] (.slice none 0 0) .nil) := by unfold Hid; rw [hs1]; exact LA0.out
      have hwl := HWL.out _ LA.out.st
      clear q2 HH HS HP IP IB IW hs1 LA0 HWL
      generalize wat X s1 = q at *
      generalize wordS X s1 = sw at *
      go_wp2_with fail
      refine (CWW.out _ LA.out.st).mono ?_
      rintro e wa2 ⟨rfl, hSw, hFw⟩
      have LA2 := Lib.hid (LA.out.step hSw hFw)
      clear hSw hFw CWW
      go_wp2_with fail
      refine (C1.out _ LA2.out.st).mono ?_
      rintro e wb ⟨h1, k1, A1, c1, rfl, hKw, hSw, hFw, hN1⟩
      obtain ⟨x11, x12, x13, x14, x15⟩ := h1
      have LB := Lib.hid (LA2.out.kid hSw hFw hKw)
      have HN1 := Lib.hid hN1
      clear hSw hFw hKw hN1
      go_wp2_with fail
      refine (C2.out _ LB.out.st).mono ?_
      rintro e wc ⟨h2, k2, A2, c2, rfl, hKw, hSw, hFw, hN2⟩
      obtain ⟨x21, x22, x23, x24, x25⟩ := h2
      have LC := Lib.hid (LB.out.kid hSw hFw hKw)
      have HN2 := Lib.hid hN2
      clear hSw hFw hKw hN2
      go_wp2_with fail
      refine (C3.out _ LC.out.st).mono ?_
      rintro e wd ⟨h3, k3, A3, c3, rfl, hKw, hSw, hFw, hN3⟩
      obtain ⟨x31, x32, x33, x34, x35⟩ := h3
      have LD := Lib.hid (LC.out.kid hSw hFw hKw)
      have HN3 := Lib.hid hN3
      clear hSw hFw hKw hN3
      have LE := Lib.hid (LD.out.slice wd.heap.size rfl (KV.three (h1 := ⟨x11, x12, x13, x14, x15⟩) (h2 := ⟨x21, x22, x23, x24, x25⟩) (h3 := ⟨x31, x32, x33, x34, x35⟩) (LD.out.kidP 2 rfl) (LD.out.kidP 1 rfl) (LD.out.kidP 0 rfl)))
      have HR : Hid (bk.2.2 < 0 → r = (.one ⟨3, p, pos X bk.2, textAt X.l q, q⟩ ((Fo.one ⟨x11, x12, x13, x14, x15⟩ k1).app ((Fo.one ⟨x21, x22, x23, x24, x25⟩ k2).app (.one ⟨x31, x32, x33, x34, x35⟩ k3))), bk.2)) := fun h => by
        obtain ⟨g2, g1, g0⟩ := HG3.out h
        rw [g0, HN1.out g1, HN2.out g2, HN3.out h, pos_good h]
      clear C1 C2 C3 HG3 HN1 HN2 HN3
      go_wp2_with fail
      refine (named_any X bk.2 3 p q (some ⟨wd.heap.size, 0, none⟩) 3 3 _ LE.out.st hwl).mono ?_
      rintro e wf ⟨rfl, hbw⟩
      have LFb := Lib.hid (LE.out.other hbw)
      have u1 := (LFb.out.row 0 rfl).cell
      have u2 := (LFb.out.row 0 rfl).thaw
      have LF := Lib.hid (LFb.out.put6 0 rfl rfl (.int .i64 3) (.int .i64 p) (.int .i64 (pos X bk.2)) (.string (textAt X.l q)) (.int .i64 q) (.slice (some ⟨wd.heap.size, 0, none⟩) 3 3))
      clear hbw
      go_wp2
      refine bodyPost_ret ?_ rfl ⟨⟨3, p, pos X bk.2, textAt X.l q, q⟩, ((Fo.one ⟨x11, x12, x13, x14, x15⟩ k1).app ((Fo.one ⟨x21, x22, x23, x24, x25⟩ k2).app (.one ⟨x31, x32, x33, x34, x35⟩ k3))), some ⟨wd.heap.size, 0, none⟩, 3, rfl, (LF.out.kidP 0 rfl).new_ (fun g h => h.1), PSt.to LF.out.st (fun h => by rw [HR.out h]) HB.out, LF.out.fr, ?_⟩
      · simp [results, Tryz.results171, go_sem, u1]
        try first | rfl | exact ⟨rfl, rfl⟩
      · intro hh
        rw [HR.out (by by_cases h : (bk.2 : Sd).2 < 0; exact h; rw [HB.out (by omega)] at hh; exact absurd hh h)]
  · obtain ⟨hg, hm⟩ := tk_good q1
    have hr := it_use HH.out hm
    have CC : Hid (∀ w', PSt X w' (s.1 + 1, s.2) → Calls Tryz.prog 220 #[X.p, .int .i64 p] w' (NodeQ X w' r)) := fun w' h => use_q X p (s.1 + 1, s.2) w' r (by rw [HP.out]) (by rw [HP.out]; exact hr) h
    clear hg hm hr
    have CT := Lib.hid (take_yes X s ⟨#[117, 115, 101]⟩ _ L0.out.st (by decide) q1)
    go_wp2_with fail
    refine CT.out.mono ?_
    rintro e wa ⟨rfl, hSw, hFw⟩
    have LA := Lib.hid (L0.out.step hSw hFw)
    clear hSw hFw CT
    clear q1 HH HS HP IP IB IW
    go_wp2_with fail
    refine (CC.out _ LA.out.st).mono ?_
    rintro e wb ⟨h1, k1, A1, c1, rfl, hKw, hSw, hFw, hN1⟩
    obtain ⟨x11, x12, x13, x14, x15⟩ := h1
    have LX := Lib.hid (LA.out.kid hSw hFw hKw)
    have HN1 := Lib.hid hN1
    clear hSw hFw hKw hN1
    have u1 := (LX.out.row 0 rfl).cell
    have u2 := (LX.out.row 0 rfl).thaw
    have LY := Lib.hid (LX.out.put6 0 rfl rfl (.int .i64 x11) (.int .i64 x12) (.int .i64 x13) (.string x14) (.int .i64 x15) (.slice A1 k1.len c1))
    go_wp2
    refine bodyPost_ret ?_ rfl ⟨⟨x11, x12, x13, x14, x15⟩, k1, A1, c1, rfl, (LY.out.kidP 0 rfl).new_ (fun g h => h.1), LY.out.st, LY.out.fr, HN1.out⟩
    simp [results, Tryz.results171, go_sem, u1]
    try first | rfl | exact ⟨rfl, rfl⟩
set_option maxHeartbeats 8000000 in
set_option maxRecDepth 100000 in
theorem file_q (X : Cx) (P : Prop) (f : Nat) (hf : f ≤ 1000000) (I : ∀ f', f' ≤ f → ∀ (s : Sd) (w : World) (r : Fo × Sd), P → s.2 < 0 → itemM X.l f' s = some r → PSt X w s → Calls Tryz.prog 171 #[X.p] w (NodeQ X w r)) : RuleQ X P (fileR X f) 136 := by
  intro s w r hr1 hr2 hS
  have INV0 := Lib.hid (file_pure hr1 hr2)
  have L0 := Lib.hid ((LS.start hS).alloc w.heap.size rfl 38 zcc)
  have hrb := hS.lt
  have hl := hS.len
  have HI := Lib.hid I
  clear hr1 hr2 hS I
  go_enter Tryz.func136, Tryz.ntmps136
  go_wp2_with fail
  go_loopg [3] (f + 1) (fun kx s3 wr => ∃ (fk : Nat) (sk : Sd) (K : Fo) (u : Value), u = s3 ∧ fk ≤ kx ∧ K.len + fk ≤ f ∧ Hid (InvF X P r fk sk K) ∧ Hid (LS X w wr sk [(w.heap.size, 38, zcc)] [] s3 K))
  case atStart => exact ⟨f, s, .nil, _, rfl, by omega, by simp [Fo.len], INV0.out, L0.out⟩
  case round =>
    obtain ⟨fk, sk, K, u, rfl, hkx, hlen, HG, LK⟩ := hrel
    clear INV0 L0
    have rk := LK.out.st.row.cell
    have CE : ∀ n, Calls Tryz.prog 168 #[X.p] (wr.drewN n) fun e w' => e = .returned (.int .i64 (lastI X : Int)) ∧ ∃ m, w' = (wr.drewN n).drewN m := fun n => end_q X sk _ (LK.out.st.below (below_drewN (Below.refl _ _) n))
    have CEH := Lib.hid CE
    have HLA := Lib.hid LK.out.st.last
    have HPO : Hid (¬ pos X sk + 1 < X.l.length → sk.2 < 0 → kindAt X.l sk.1 = 0) := fun h h2 => by
      by_cases hk : kindAt X.l sk.1 = 0
      · exact hk
      · have := kindAt_next LK.out.st.wf.toWf hk
        rw [pos_good h2] at h
        omega
    have HPG : Hid (pos X sk + 1 < X.l.length → sk.2 < 0 ∧ kindAt X.l sk.1 ≠ 0) := fun h => by
      obtain ⟨h1, h2⟩ := PSt.pos_on LK.out.st h
      rw [h2] at h
      refine ⟨h1, ?_⟩
      rw [kindAt_get (by omega)]
      exact LK.out.st.wf.conv _ (by omega) h
    have hrk := LK.out.st.lt
    have hplk := LK.out.st.pos_lt
    clear CE
    by_cases hp : pos X sk + 1 < X.l.length
    · obtain ⟨hs, hm⟩ := HPG.out hp
      obtain ⟨f', t, e1, hP, ht, hI⟩ := HG.out.go hs hm
      have hd : decide (((pos X sk : Nat) : Int) < (lastI X : Int)) = true := decide_eq_true (by have := HLA.out; omega)
      have hd2 : decide (pos X sk < lastI X) = true := decide_eq_true (by have := HLA.out; omega)
      have C2 : Hid (∀ w', PSt X w' sk → Calls Tryz.prog 171 #[X.p] w' (NodeQ X w' t)) := fun w' h => HI.out f' (by omega) sk w' t hP hs ht h
      have HINV2 := Lib.hid hI
      have HF := Lib.hid e1
      clear hs hm hP ht hI e1 HG HPO HPG HLA hp
      generalize pos X sk = pk at *
      go_wp2_with fail
      go_quiet (first
        | (go_at_call 168; exact Calls.quiet_of (CEH.out _)))
      rename_i nq
      have L4 := Lib.hid (LK.out.other (below_drewN (Below.refl _ _) nq))
      clear rk CEH
      go_wp2_with fail
      refine (C2.out _ L4.out.st).mono ?_
      rintro e w5 ⟨h5, k5, A5, c5, rfl, hK5, hS5, hF5, hN5⟩
      have INV := Lib.hid (HINV2.out h5 k5 hN5)
      obtain ⟨z1, z2, z3, z4, z5⟩ := h5
      have M6 := Lib.hid ((L4.out.kid hS5 hF5 hK5).other (bel1 _ (.cells (ncc ⟨z1, z2, z3, z4, z5⟩ A5 k5.len c5) 38)))
      obtain ⟨cs, o1, o2⟩ := M6.out.own
      have O1 := Lib.hid o1
      have O2 := Lib.hid o2
      obtain ⟨AK, cK, eK, hcK, _⟩ := M6.out.list
      subst eK
      obtain ⟨i0, hi0, hz0, hz1, hz2⟩ := info_parts info25
      have b5 := Lib.hid M6.out.size
      have b3' : K.len + 1 ≤ maxLen := by unfold maxLen; omega
      have b4' : (K.len + 1) * 72 ≤ 140737488355328 := by omega
      have CN := Lib.hid (cells_nd w5 (.int .i64 z1) (.int .i64 z2) (.int .i64 z3) (.string z4) (.int .i64 z5) (.slice A5 k5.len c5))
      clear o1 o2 hK5 hS5 hF5 hN5 HINV2 C2 L4
      go_wp2_with (at_builtin; refine wpList_append_at rfl (.tmp 11) (.tmp 14) 36 rfl w.heap.size 38 i0 (.agg #[.int .i64 0, .int .i64 0, .int .i64 0, .string ⟨#[]⟩, .int .i64 0, .slice none 0 0]) 6 72 Tryz.underlying36 hi0 hz0 hz1 hz2 rfl (by decide) _ K.len cs rfl O1.out ⟨w5.heap.size, 0, none⟩ 1 1 [.int .i64 z1, .int .i64 z2, .int .i64 z3, .string z4, .int .i64 z5, .slice A5 k5.len c5] rfl rfl (by simpa using CN.out) (one_nd ⟨z1, z2, z3, z4, z5⟩ _ _ _) b3' b4' b5.out ?_)
      intro v' w7 hown' hgrow hat
      have M7 := Lib.hid (M6.out.push ⟨O1.out, O2.out⟩ (k := .one ⟨z1, z2, z3, z4, z5⟩ k5) (FC.one (M6.out.kidP 0 rfl)) hown' hgrow (fun j hj => by
        rcases hat j hj with h | h
        · exact .inl h
        · exact .inr (by simpa using h))).noK
      have hKl : (K.app (.one ⟨z1, z2, z3, z4, z5⟩ k5)).len = K.len + 1 := by rw [Fo.len_app]; rfl
      have HKL := Lib.hid hKl
      have hf1 := HF.out
      clear hown' hgrow hat b3' b4' b5 CN O1 O2 M6 hKl
      go_wp2_with fail
      go_roundg f'
      case measure => omega
      case rel => exact ⟨f', t.2, K.app (.one ⟨z1, z2, z3, z4, z5⟩ k5), _, rfl, by omega, by rw [HKL.out]; omega, INV.out, M7.out⟩
    · have hd : decide (((pos X sk : Nat) : Int) < (lastI X : Int)) = false := decide_eq_false (by have := HLA.out; omega)
      have hd2 : decide (pos X sk < lastI X) = false := decide_eq_false (by have := HLA.out; omega)
      have HSTOP : Hid (sk.2 < 0 → r = (.one ⟨1, 0, sk.1, e0, 0⟩ K, sk)) := fun h => HG.out.stop h (HPO.out hp h)
      have HB := Lib.hid HG.out.2
      have HPK : Hid (sk.2 < 0 → pos X sk = sk.1) := fun h => pos_good h
      clear HG HPO HPG HLA hp
      obtain ⟨pk, hpk⟩ : ∃ pk, pk = pos X sk := ⟨_, rfl⟩
      have HPE := Lib.hid hpk
      rw [← hpk] at rk hd hd2 hplk HPK
      clear hpk
      go_wp2_with fail
      go_quiet (first
        | (go_at_call 168; exact Calls.quiet_of (CEH.out _)))
      rename_i nq
      have L4 := Lib.hid (LK.out.other (below_drewN (Below.refl _ _) nq))
      clear rk CEH
      obtain ⟨A, cap, hv, hcap, _⟩ := L4.out.list
      subst hv
      have LD := Lib.hid L4.out.toKid
      have HR : Hid (sk.2 < 0 → r = (.one ⟨1, 0, pos X sk, e0, 0⟩ K, sk)) := fun h => by rw [HSTOP.out h, ← HPE.out, HPK.out h]
      clear L4 LK HPK HPE HSTOP
      go_wp2_with fail
      refine (node_any X sk 1 0 (A) K.len cap _ LD.out.st).mono ?_
      rintro e wd ⟨rfl, hbw⟩
      have LEb := Lib.hid (LD.out.other hbw)
      have u1 := (LEb.out.row 0 rfl).cell
      have u2 := (LEb.out.row 0 rfl).thaw
      have LE := Lib.hid (LEb.out.put6 0 rfl rfl (.int .i64 1) (.int .i64 0) (.int .i64 (pos X sk)) (.string e0) (.int .i64 0) (.slice (A) K.len cap))
      clear hbw
      go_wp2
      refine bodyPost_ret ?_ rfl ⟨⟨1, 0, pos X sk, e0, 0⟩, K, A, cap, rfl, (LE.out.kidP 0 rfl).new_ (fun g h => h.1), PSt.to LE.out.st (fun h => by rw [HR.out h]) HB.out, LE.out.fr, ?_⟩
      · simp [results, Tryz.results136, go_sem, u1]
        try first | rfl | exact ⟨rfl, rfl⟩
      · intro hh
        rw [HR.out (by by_cases h : (sk : Sd).2 < 0; exact h; rw [HB.out (by omega)] at hh; exact absurd hh h)]
end Pg
end Go.Proofs.YthjflofcgdfekaaGreatDoor
