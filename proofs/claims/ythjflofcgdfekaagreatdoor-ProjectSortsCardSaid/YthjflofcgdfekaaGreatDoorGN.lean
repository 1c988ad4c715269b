import Derived.Test.YthjflofcgdfekaaGreatDoorGM
namespace Go.Proofs.YthjflofcgdfekaaGreatDoor
open Go.RowKit
namespace Pg
open Ps
theorem isM_kind {l : List Tok} {i : Nat} {x : List UInt8} (h : isM l i x = true) : kindAt l i = 2 ∨ kindAt l i = 5 := by
  unfold isM at h
  unfold kindAt
  cases hl : l[i]? with
  | none => rw [hl] at h; cases h
  | some t =>
    rw [hl] at h
    simp only [Bool.and_eq_true, Bool.or_eq_true, beq_iff_eq] at h
    exact h.1
theorem hasK_good {X : Cx} {s : Sd} {k : Nat} (h : hasK X s k = true) : s.2 < 0 ∧ kindAt X.l s.1 = k := by
  unfold hasK at h
  rw [Bool.and_eq_true, decide_eq_true_eq, decide_eq_true_eq] at h
  exact h
theorem hasK_bad {X : Cx} {s : Sd} {k : Nat} (h : hasK X s k = false) : 0 ≤ s.2 ∨ kindAt X.l s.1 ≠ k := by
  unfold hasK at h
  rw [Bool.and_eq_false_iff, decide_eq_false_iff_not, decide_eq_false_iff_not] at h
  rcases h with h | h
  · left; omega
  · exact .inr h
theorem at_leaf {l : List Tok} {f : Nat} {b : Int} {i : Nat} {r : Fo × Nat × Int} (h : exM l (f + 1) .atom b i = some r) (hb : b < 0) (k kd : Nat) (hk : k = 3 ∧ kd = 21 ∨ k = 4 ∧ kd = 22 ∨ k = 1 ∧ kd = 23) (hm : kindAt l i = k) : r = (.one ⟨kd, i, i + 1, textAt l i, i⟩ .nil, i + 1, b) := by
  rw [exM, if_neg (by omega)] at h
  rcases hk with ⟨rfl, rfl⟩ | ⟨rfl, rfl⟩ | ⟨rfl, rfl⟩
  · rw [if_pos hm] at h; injection h with h; exact h.symm
  · rw [if_neg (by omega), if_pos hm] at h; injection h with h; exact h.symm
  · rw [if_neg (by omega), if_neg (by omega), if_pos hm] at h; injection h with h; exact h.symm
theorem at_key {l : List Tok} {f : Nat} {b : Int} {i : Nat} {r : Fo × Nat × Int} {x : List UInt8} (h : exM l (f + 1) .atom b i = some r) (hb : b < 0) (hm : isM l i x = true) :
    (if isM l i kInput = true then some (.one ⟨24, i, i + 1, e0, 0⟩ .nil, i + 1, b)
    else if isM l i sParO = true then
      (exM l f .expr b (i + 1)).bind fun x =>
        let y := wantM l x.2.2 x.2.1 sParS
        some (.one ⟨25, i, y.1, e0, 0⟩ x.1, y.1, y.2)
    else if isM l i sOpen = true then
      (exM l f (.entries true) b (i + 1)).bind fun x =>
        let y := wantM l x.2.2 x.2.1 sShut
        some (.one ⟨26, i, y.1, e0, 0⟩ x.1, y.1, y.2)
    else
      let y := wantM l b i kFn
      (exM l f .lambda y.2 y.1).bind fun k =>
        some (.one ⟨28, i, k.2.1, e0, 0⟩ k.1, k.2.1, k.2.2)) = some r := by
  have hk := isM_kind hm
  rw [exM, if_neg (by omega), if_neg (by omega), if_neg (by omega), if_neg (by omega)] at h
  exact h
theorem at_input {l : List Tok} {f : Nat} {b : Int} {i : Nat} {r : Fo × Nat × Int} (h : exM l (f + 1) .atom b i = some r) (hb : b < 0) (hm : isM l i kInput = true) : r = (.one ⟨24, i, i + 1, e0, 0⟩ .nil, i + 1, b) := by
  have h := at_key h hb hm
  rw [if_pos hm] at h; injection h with h; exact h.symm
theorem at_group {l : List Tok} {f : Nat} {b : Int} {i : Nat} {r : Fo × Nat × Int} (h : exM l (f + 1) .atom b i = some r) (hb : b < 0) (hm : isM l i sParO = true) : ∃ x, exM l f .expr b (i + 1) = some x ∧ r = (.one ⟨25, i, (wantM l x.2.2 x.2.1 sParS).1, e0, 0⟩ x.1, wantM l x.2.2 x.2.1 sParS) := by
  have h := at_key h hb hm
  rw [if_neg (by rw [isM_ne hm (by decide)]; simp), if_pos hm] at h
  obtain ⟨x, hx, h⟩ := Option.bind_eq_some_iff.1 h
  injection h with h
  exact ⟨x, hx, h.symm⟩
theorem at_rec {l : List Tok} {f : Nat} {b : Int} {i : Nat} {r : Fo × Nat × Int} (h : exM l (f + 1) .atom b i = some r) (hb : b < 0) (hm : isM l i sOpen = true) :
    ∃ q, listM l (labR l 27 (fun f => exM l f .expr)) sShut f true b (i + 1) = some q ∧ r = (.one ⟨26, i, (wantM l q.2.2 q.2.1 sShut).1, e0, 0⟩ q.1, wantM l q.2.2 q.2.1 sShut) := by
  have h := at_key h hb hm
  rw [if_neg (by rw [isM_ne hm (by decide)]; simp), if_neg (by rw [isM_ne hm (by decide)]; simp), if_pos hm] at h
  obtain ⟨x, hx, h⟩ := Option.bind_eq_some_iff.1 h
  injection h with h
  exact ⟨x, by rw [← entries_list]; exact hx, h.symm⟩
theorem lam_parts {l : List Tok} {f : Nat} {b : Int} {i : Nat} {r : Fo × Nat × Int} (h : exM l f .lambda b i = some r) :
    ∃ f' p t k, f = f' + 1 ∧ paramsM l f' b i = some p ∧ typedM l f' p.2.2 p.2.1 = some t ∧ exM l f' .block t.2.2 t.2.1 = some k ∧ r = (p.1.app (t.1.app k.1), k.2) := by
  cases f with
  | zero => rw [exM] at h; cases h
  | succ f =>
    rw [exM] at h
    obtain ⟨p, h1, h⟩ := Option.bind_eq_some_iff.1 h
    obtain ⟨t, h2, h⟩ := Option.bind_eq_some_iff.1 h
    obtain ⟨k, h3, h⟩ := Option.bind_eq_some_iff.1 h
    injection h with h
    exact ⟨f, p, t, k, rfl, h1, h2, h3, h.symm⟩
theorem at_lam {l : List Tok} {f : Nat} {b : Int} {i : Nat} {r : Fo × Nat × Int} (h : exM l (f + 1) .atom b i = some r) (hb : b < 0) (hm : isM l i kFn = true) :
    ∃ f' p t k, f = f' + 1 ∧ paramsM l f' b (i + 1) = some p ∧ typedM l f' p.2.2 p.2.1 = some t ∧ exM l f' .block t.2.2 t.2.1 = some k ∧ r = (.one ⟨28, i, k.2.1, e0, 0⟩ (p.1.app (t.1.app k.1)), k.2) := by
  have h := at_key h hb hm
  have hw : wantM l b i kFn = (i + 1, b) := by unfold wantM; rw [if_neg (by omega), if_pos hm]
  rw [if_neg (by rw [isM_ne hm (by decide)]; simp), if_neg (by rw [isM_ne hm (by decide)]; simp), if_neg (by rw [isM_ne hm (by decide)]; simp)] at h
  dsimp only at h
  rw [hw] at h
  obtain ⟨x, hx, h⟩ := Option.bind_eq_some_iff.1 h
  injection h with h
  obtain ⟨f', p, t, k, e1, e2, e3, e4, e5⟩ := lam_parts hx
  exact ⟨f', p, t, k, e1, e2, e3, e4, by rw [← h, e5]⟩
theorem lam_bad {l : List Tok} {f : Nat} {b : Int} {i : Nat} {r : Fo × Nat × Int} (hb : 0 ≤ b) (h : exM l f .lambda b i = some r) : r.2.2 = b := exM_bad _ _ _ _ _ hb h
theorem at_no {l : List Tok} {f : Nat} {b : Int} {i : Nat} {r : Fo × Nat × Int} (h : exM l (f + 1) .atom b i = some r) (hb : b < 0) (k3 : kindAt l i ≠ 3) (k4 : kindAt l i ≠ 4) (k1 : kindAt l i ≠ 1) (h1 : isM l i kInput = false) (h2 : isM l i sParO = false) (h3 : isM l i sOpen = false) (h4 : isM l i kFn = false) : r.2.2 = (i : Int) := by
  rw [exM, if_neg (by omega), if_neg k3, if_neg k4, if_neg k1, if_neg (by rw [h1]; simp), if_neg (by rw [h2]; simp), if_neg (by rw [h3]; simp)] at h
  have hw : wantM l b i kFn = (i, (i : Int)) := by unfold wantM; rw [if_neg (by omega), if_neg (by rw [h4]; simp)]
  dsimp only at h
  rw [hw] at h
  obtain ⟨x, hx, h⟩ := Option.bind_eq_some_iff.1 h
  have := lam_bad (by dsimp only; omega) hx
  injection h with h
  rw [← h]
  exact this
abbrev parmR (X : Cx) (f : Nat) : Sd → Res := fun s => paramsM X.l f s.2 s.1
abbrev wrtR (X : Cx) (f : Nat) : Sd → Res := fun s => typedM X.l f s.2 s.1
set_option maxHeartbeats 4000000 in
set_option maxRecDepth 100000 in
theorem atom_q (X : Cx) (P : Prop) (f : Nat) (hf : f ≤ 1000000) (IE : P → ∀ f', f' ≤ f → RuleQ X P (exR X f' .expr) 268) (IP : P → ∀ f', f' ≤ f → RuleQ X P (parmR X f') 223) (IW : P → ∀ f', f' ≤ f → RuleQ X P (wrtR X f') 224) (IB : P → ∀ f', f' ≤ f → RuleQ X P (exR X f' .block) 225) : RuleQ X P (exR X (f + 1) .atom) 293 := by
  intro s w r hr1 hr2 hS
  have L0 := Lib.hid ((LS.start hS).alloc w.heap.size rfl 38 zcc)
  have rr := hS.row.cell
  have hrb := hS.lt
  have hl := hS.len
  have hpl := hS.pos_lt
  obtain ⟨p, hp⟩ : ∃ p, p = pos X s := ⟨_, rfl⟩
  rw [← hp] at rr hpl
  have HP := Lib.hid hp
  have IE := Lib.hid IE
  have IP := Lib.hid IP
  have IW := Lib.hid IW
  have IB := Lib.hid IB
  have H1 := Lib.hid hr1
  have H2 := Lib.hid hr2
  clear hp hr1 hr2 hS
  go_enter Tryz.func293, Tryz.ntmps293
  cases q1 : tk X s sParO
  · have CT := Lib.hid (take_no X s ⟨#[40]⟩ _ L0.out.st (by decide) q1)
    go_wp2_with fail
    refine CT.out.mono ?_
    rintro e w1 ⟨rfl, hSw, hFw⟩
    have L1 := Lib.hid (L0.out.step hSw hFw)
    clear hSw hFw CT
    have Q1 := Lib.hid (tk_bad q1)
    clear q1
    cases q2 : tk X s sOpen
    · have CT := Lib.hid (take_no X s ⟨#[123]⟩ _ L1.out.st (by decide) q2)
      go_wp2_with fail
      refine CT.out.mono ?_
      rintro e w2 ⟨rfl, hSw, hFw⟩
      have L2 := Lib.hid (L1.out.step hSw hFw)
      clear hSw hFw CT
      have Q2 := Lib.hid (tk_bad q2)
      clear q2
      cases q3 : tk X s kFn
      · have CT := Lib.hid (take_no X s ⟨#[102, 110]⟩ _ L2.out.st (by decide) q3)
        go_wp2_with fail
        refine CT.out.mono ?_
        rintro e w3 ⟨rfl, hSw, hFw⟩
        have L3 := Lib.hid (L2.out.step hSw hFw)
        clear hSw hFw CT
        have Q3 := Lib.hid (tk_bad q3)
        clear q3
        cases q4 : tk X s kInput
        · have CT := Lib.hid (take_no X s ⟨#[105, 110, 112, 117, 116]⟩ _ L3.out.st (by decide) q4)
          go_wp2_with fail
          refine CT.out.mono ?_
          rintro e w4 ⟨rfl, hSw, hFw⟩
          have L4 := Lib.hid (L3.out.step hSw hFw)
          clear hSw hFw CT
          have Q4 := Lib.hid (tk_bad q4)
          clear q4
          have CH := has_any X s 3 _ L4.out.st (by decide) (by decide)
          cases q5 : hasK X s 3
          · rw [q5] at CH
            have CK := Lib.hid CH
            have Q5 := Lib.hid (hasK_bad q5)
            clear CH q5
            go_wp2_with fail
            refine CK.out.mono ?_
            rintro e w5 ⟨rfl, hbw⟩
            have L5 := Lib.hid (L4.out.other hbw)
            clear hbw CK
            have CH := has_any X s 4 _ L5.out.st (by decide) (by decide)
            cases q6 : hasK X s 4
            · rw [q6] at CH
              have CK := Lib.hid CH
              have Q6 := Lib.hid (hasK_bad q6)
              clear CH q6
              go_wp2_with fail
              refine CK.out.mono ?_
              rintro e w6 ⟨rfl, hbw⟩
              have L6 := Lib.hid (L5.out.other hbw)
              clear hbw CK
              have CH := has_any X s 1 _ L6.out.st (by decide) (by decide)
              cases q7 : hasK X s 1
              · rw [q7] at CH
                have CK := Lib.hid CH
                have Q7 := Lib.hid (hasK_bad q7)
                clear CH q7
                go_wp2_with fail
                refine CK.out.mono ?_
                rintro e w7 ⟨rfl, hbw⟩
                have L7 := Lib.hid (L6.out.other hbw)
                clear hbw CK
                have HFAIL : Hid (r.2.2 = (failS s).2) := by
                  unfold failS
                  by_cases hs : 0 ≤ s.2
                  · rw [if_pos hs]; exact H2.out hs
                  · rw [if_neg hs]
                    have h := (H1.out (by omega)).2
                    exact at_no h (by omega) (Q5.out.resolve_left hs) (Q6.out.resolve_left hs) (Q7.out.resolve_left hs) (Q4.out.resolve_left hs) (Q1.out.resolve_left hs) (Q2.out.resolve_left hs) (Q3.out.resolve_left hs)
                clear Q1 Q2 Q3 Q4 Q5 Q6 Q7 H1 H2 HP IE IP IW IB
                have CF := Lib.hid (fail_any X s _ L7.out.st)
                go_wp2_with fail
                refine CF.out.mono ?_
                rintro e wz ⟨rfl, hSw, hFw⟩
                have LYb := Lib.hid (L7.out.step hSw hFw)
                have u1 := (LYb.out.row 0 rfl).cell
                have u2 := (LYb.out.row 0 rfl).thaw
                have LY := Lib.hid (LYb.out.put6 0 rfl rfl (.int .i64 0) (.int .i64 0) (.int .i64 0) (.string ⟨#[]⟩) (.int .i64 0) (.slice none 0 0))
                clear hSw hFw CF
                go_wp2
                refine bodyPost_ret ?_ rfl ⟨⟨0, 0, 0, e0, 0⟩, .nil, none, 0, rfl, KV.nil _ _ _ _, PSt.to LY.out.st (fun h => absurd h (by have := failS_bad s; omega)) (fun _ => HFAIL.out), LY.out.fr, ?_⟩
                · simp [results, Tryz.results293, go_sem, u1]
                  try first | rfl | exact ⟨rfl, rfl⟩
                · intro hh
                  rw [HFAIL.out] at hh
                  exact absurd hh (by have := failS_bad s; omega)
              · rw [q7] at CH
                have CK := Lib.hid CH
                obtain ⟨hg, hk⟩ := hasK_good q7
                have hnx := kindAt_next L6.out.st.wf.toWf (i := s.1) (by omega)
                have hR := at_leaf (H1.out hg).2 hg 1 23 (.inr (.inr ⟨rfl, rfl⟩)) hk
                have HR2 := Lib.hid hR
                have HL2 := Lib.hid (fun w' h => leaf_any X s 23 w' h hg hnx)
                clear hR hnx hg hk q7 CH H1 H2 HP IE IP IW IB
                go_wp2_with fail
                refine CK.out.mono ?_
                rintro e wa ⟨rfl, hbw⟩
                have LA := Lib.hid (L6.out.other hbw)
                clear hbw CK
                go_wp2_with fail
                refine (HL2.out _ LA.out.st).mono ?_
                rintro e wb ⟨rfl, hSw, hFw⟩
                have LBb := Lib.hid (LA.out.step hSw hFw)
                have u1 := (LBb.out.row 0 rfl).cell
                have u2 := (LBb.out.row 0 rfl).thaw
                have LB := Lib.hid (LBb.out.put6 0 rfl rfl (.int .i64 23) (.int .i64 s.1) (.int .i64 ((s.1 + 1 : Nat) : Int)) (.string (textAt X.l s.1)) (.int .i64 s.1) (.slice none 0 0))
                clear hSw hFw HL2
                go_wp2
                refine bodyPost_ret ?_ rfl ⟨⟨23, s.1, s.1 + 1, textAt X.l s.1, s.1⟩, .nil, none, 0, rfl, KV.nil _ _ _ _, (by rw [HR2.out]; exact LB.out.st), LB.out.fr, fun _ => by rw [HR2.out]⟩
                simp [results, Tryz.results293, go_sem, u1]
                try first | rfl | exact ⟨rfl, rfl⟩
            · rw [q6] at CH
              have CK := Lib.hid CH
              obtain ⟨hg, hk⟩ := hasK_good q6
              have hnx := kindAt_next L5.out.st.wf.toWf (i := s.1) (by omega)
              have hR := at_leaf (H1.out hg).2 hg 4 22 (.inr (.inl ⟨rfl, rfl⟩)) hk
              have HR2 := Lib.hid hR
              have HL2 := Lib.hid (fun w' h => leaf_any X s 22 w' h hg hnx)
              clear hR hnx hg hk q6 CH H1 H2 HP IE IP IW IB
              go_wp2_with fail
              refine CK.out.mono ?_
              rintro e wa ⟨rfl, hbw⟩
              have LA := Lib.hid (L5.out.other hbw)
              clear hbw CK
              go_wp2_with fail
              refine (HL2.out _ LA.out.st).mono ?_
              rintro e wb ⟨rfl, hSw, hFw⟩
              have LBb := Lib.hid (LA.out.step hSw hFw)
              have u1 := (LBb.out.row 0 rfl).cell
              have u2 := (LBb.out.row 0 rfl).thaw
              have LB := Lib.hid (LBb.out.put6 0 rfl rfl (.int .i64 22) (.int .i64 s.1) (.int .i64 ((s.1 + 1 : Nat) : Int)) (.string (textAt X.l s.1)) (.int .i64 s.1) (.slice none 0 0))
              clear hSw hFw HL2
              go_wp2
              refine bodyPost_ret ?_ rfl ⟨⟨22, s.1, s.1 + 1, textAt X.l s.1, s.1⟩, .nil, none, 0, rfl, KV.nil _ _ _ _, (by rw [HR2.out]; exact LB.out.st), LB.out.fr, fun _ => by rw [HR2.out]⟩
              simp [results, Tryz.results293, go_sem, u1]
              try first | rfl | exact ⟨rfl, rfl⟩
          · rw [q5] at CH
            have CK := Lib.hid CH
            obtain ⟨hg, hk⟩ := hasK_good q5
            have hnx := kindAt_next L4.out.st.wf.toWf (i := s.1) (by omega)
            have hR := at_leaf (H1.out hg).2 hg 3 21 (.inl ⟨rfl, rfl⟩) hk
            have HR2 := Lib.hid hR
            have HL2 := Lib.hid (fun w' h => leaf_any X s 21 w' h hg hnx)
            clear hR hnx hg hk q5 CH H1 H2 HP IE IP IW IB
            go_wp2_with fail
            refine CK.out.mono ?_
            rintro e wa ⟨rfl, hbw⟩
            have LA := Lib.hid (L4.out.other hbw)
            clear hbw CK
            go_wp2_with fail
            refine (HL2.out _ LA.out.st).mono ?_
            rintro e wb ⟨rfl, hSw, hFw⟩
            have LBb := Lib.hid (LA.out.step hSw hFw)
            have u1 := (LBb.out.row 0 rfl).cell
            have u2 := (LBb.out.row 0 rfl).thaw
            have LB := Lib.hid (LBb.out.put6 0 rfl rfl (.int .i64 21) (.int .i64 s.1) (.int .i64 ((s.1 + 1 : Nat) : Int)) (.string (textAt X.l s.1)) (.int .i64 s.1) (.slice none 0 0))
            clear hSw hFw HL2
            go_wp2
            refine bodyPost_ret ?_ rfl ⟨⟨21, s.1, s.1 + 1, textAt X.l s.1, s.1⟩, .nil, none, 0, rfl, KV.nil _ _ _ _, (by rw [HR2.out]; exact LB.out.st), LB.out.fr, fun _ => by rw [HR2.out]⟩
            simp [results, Tryz.results293, go_sem, u1]
            try first | rfl | exact ⟨rfl, rfl⟩
        · obtain ⟨hg, hm, hp, hnx⟩ := tk_lt L3.out.st q4
          have HPS := Lib.hid (HP.out.trans hp)
          have hP := (H1.out hg).1
          have h3 := (H1.out hg).2
          have hR := at_input h3 hg hm
          have HR : Hid (((s.1 + 1, s.2) : Sd).2 < 0 → r = (.one ⟨24, p, pos X (s.1 + 1, s.2), e0, 0⟩ .nil, (s.1 + 1, s.2))) := fun h => by rw [hR, pos_good h, HPS.out]
          have HB : Hid (0 ≤ ((s.1 + 1, s.2) : Sd).2 → r.2.2 = ((s.1 + 1, s.2) : Sd).2) := fun h => absurd h (by dsimp only; omega)
          clear hR hm hp hnx hg h3 hP H1 H2 HP IE IP IW IB HPS
          have CT := Lib.hid (take_yes X s ⟨#[105, 110, 112, 117, 116]⟩ _ L3.out.st (by decide) q4)
          go_wp2_with fail
          refine CT.out.mono ?_
          rintro e wa ⟨rfl, hSw, hFw⟩
          have LA := Lib.hid (L3.out.step hSw hFw)
          clear hSw hFw CT
          clear q4
          go_wp2_with fail
          refine (node_any X (s.1 + 1, s.2) 24 p (none) 0 0 _ LA.out.st).mono ?_
          rintro e wb ⟨rfl, hbw⟩
          have LBb := Lib.hid (LA.out.other hbw)
          have u1 := (LBb.out.row 0 rfl).cell
          have u2 := (LBb.out.row 0 rfl).thaw
          have LB := Lib.hid (LBb.out.put6 0 rfl rfl (.int .i64 24) (.int .i64 p) (.int .i64 (pos X (s.1 + 1, s.2))) (.string e0) (.int .i64 0) (.slice (none) 0 0))
          clear hbw
          go_wp2
          refine bodyPost_ret ?_ rfl ⟨⟨24, p, pos X (s.1 + 1, s.2), e0, 0⟩, .nil, none, 0, rfl, KV.nil _ _ _ _, PSt.to LB.out.st (fun h => by rw [HR.out h]) HB.out, LB.out.fr, ?_⟩
          · simp [results, Tryz.results293, go_sem, u1]
            try first | rfl | exact ⟨rfl, rfl⟩
          · intro hh
            rw [HR.out (by by_cases h : ((s.1 + 1, s.2) : Sd).2 < 0; exact h; rw [HB.out (by omega)] at hh; exact absurd hh h)]
      · obtain ⟨hg, hm, hp, hnx⟩ := tk_lt L2.out.st q3
        have HPS := Lib.hid (HP.out.trans hp)
        have hP := (H1.out hg).1
        have h3 := (H1.out hg).2
        obtain ⟨f', pa, ty, bk, hf', hpa, hty, hbk, hR⟩ := at_lam h3 hg hm
        have C1 : Hid (∀ w', PSt X w' (s.1 + 1, s.2) → Calls Tryz.prog 223 #[X.p] w' (NodeQ X w' pa)) := fun w' h => IP.out hP f' (by omega) (s.1 + 1, s.2) w' pa (fun _ => ⟨hP, hpa⟩) (fun h => absurd h (by dsimp only; omega)) h
        have C2 : Hid (∀ w', PSt X w' pa.2 → Calls Tryz.prog 224 #[X.p] w' (NodeQ X w' ty)) := fun w' h => IW.out hP f' (by omega) pa.2 w' ty (fun _ => ⟨hP, hty⟩) (fun h => typedM_bad h hty) h
        have C3 : Hid (∀ w', PSt X w' ty.2 → Calls Tryz.prog 225 #[X.p] w' (NodeQ X w' bk)) := fun w' h => IB.out hP f' (by omega) ty.2 w' bk (fun _ => ⟨hP, hbk⟩) (fun h => exM_bad _ _ _ _ _ h hbk) h
        have HG3 : Hid (bk.2.2 < 0 → ty.2.2 < 0 ∧ pa.2.2 < 0) := fun h => by
          have g2 : ty.2.2 < 0 := by
            by_cases hh : 0 ≤ ty.2.2
            · have := exM_bad _ _ _ _ _ hh hbk; omega
            · omega
          refine ⟨g2, ?_⟩
          by_cases hh : 0 ≤ pa.2.2
          · have := typedM_bad hh hty; omega
          · omega
        have HR2 := Lib.hid hR
        clear hR hm hp hnx hg h3 hP hf' hpa hty hbk H1 H2 HP IE IP IW IB
        have CT := Lib.hid (take_yes X s ⟨#[102, 110]⟩ _ L2.out.st (by decide) q3)
        go_wp2_with fail
        refine CT.out.mono ?_
        rintro e wa ⟨rfl, hSw, hFw⟩
        have LA := Lib.hid (L2.out.step hSw hFw)
        clear hSw hFw CT
        clear q3
        go_wp2_with fail
        refine (C1.out _ LA.out.st).mono ?_
        rintro e wb ⟨h1, k1, A1, c1, rfl, hKw, hSw, hFw, hN1⟩
        obtain ⟨x11, x12, x13, x14, x15⟩ := h1
        have LB := Lib.hid (LA.out.kid hSw hFw hKw)
        have HN1 := Lib.hid hN1
        clear hSw hFw hKw hN1
        go_wp2_with fail
        refine (C2.out _ LB.out.st).mono ?_
        rintro e wc ⟨h2, k2, A2, c2, rfl, hKw, hSw, hFw, hN2⟩
        obtain ⟨x21, x22, x23, x24, x25⟩ := h2
        have LC := Lib.hid (LB.out.kid hSw hFw hKw)
        have HN2 := Lib.hid hN2
        clear hSw hFw hKw hN2
        go_wp2_with fail
        refine (C3.out _ LC.out.st).mono ?_
        rintro e wd ⟨h3, k3, A3, c3, rfl, hKw, hSw, hFw, hN3⟩
        obtain ⟨x31, x32, x33, x34, x35⟩ := h3
        have LD := Lib.hid (LC.out.kid hSw hFw hKw)
        have HN3 := Lib.hid hN3
        clear hSw hFw hKw hN3
        have LE := Lib.hid (LD.out.slice wd.heap.size rfl (KV.three (h1 := ⟨x11, x12, x13, x14, x15⟩) (h2 := ⟨x21, x22, x23, x24, x25⟩) (h3 := ⟨x31, x32, x33, x34, x35⟩) (LD.out.kidP 2 rfl) (LD.out.kidP 1 rfl) (LD.out.kidP 0 rfl)))
        have HR : Hid (bk.2.2 < 0 → r = (.one ⟨28, p, pos X bk.2, e0, 0⟩ ((Fo.one ⟨x11, x12, x13, x14, x15⟩ k1).app ((Fo.one ⟨x21, x22, x23, x24, x25⟩ k2).app (.one ⟨x31, x32, x33, x34, x35⟩ k3))), bk.2)) := fun h => by
          obtain ⟨g2, g1⟩ := HG3.out h
          rw [HR2.out, HN1.out g1, HN2.out g2, HN3.out h, HPS.out, pos_good h]
        have HB : Hid (0 ≤ bk.2.2 → r.2.2 = bk.2.2) := fun h => by rw [HR2.out]
        clear C1 C2 C3 HG3 HR2 HN1 HN2 HN3 HPS
        go_wp2_with fail
        refine (node_any X bk.2 28 p (some ⟨wd.heap.size, 0, none⟩) 3 3 _ LE.out.st).mono ?_
        rintro e wf ⟨rfl, hbw⟩
        have LFb := Lib.hid (LE.out.other hbw)
        have u1 := (LFb.out.row 0 rfl).cell
        have u2 := (LFb.out.row 0 rfl).thaw
        have LF := Lib.hid (LFb.out.put6 0 rfl rfl (.int .i64 28) (.int .i64 p) (.int .i64 (pos X bk.2)) (.string e0) (.int .i64 0) (.slice (some ⟨wd.heap.size, 0, none⟩) 3 3))
        clear hbw
        go_wp2
        refine bodyPost_ret ?_ rfl ⟨⟨28, p, pos X bk.2, e0, 0⟩, ((Fo.one ⟨x11, x12, x13, x14, x15⟩ k1).app ((Fo.one ⟨x21, x22, x23, x24, x25⟩ k2).app (.one ⟨x31, x32, x33, x34, x35⟩ k3))), some ⟨wd.heap.size, 0, none⟩, 3, rfl, (LF.out.kidP 0 rfl).new_ (fun g h => h.1), PSt.to LF.out.st (fun h => by rw [HR.out h]) HB.out, LF.out.fr, ?_⟩
        · simp [results, Tryz.results293, go_sem, u1]
          try first | rfl | exact ⟨rfl, rfl⟩
        · intro hh
          rw [HR.out (by by_cases h : (bk.2 : Sd).2 < 0; exact h; rw [HB.out (by omega)] at hh; exact absurd hh h)]
    · obtain ⟨hg, hm, hp, hnx⟩ := tk_lt L1.out.st q2
      have HPS := Lib.hid (HP.out.trans hp)
      have hP := (H1.out hg).1
      have h3 := (H1.out hg).2
      obtain ⟨q, hq, hR⟩ := at_rec h3 hg hm
      obtain ⟨rl, hrl⟩ : ∃ rl : Fo × Sd, rl = (q.1, wantM X.l q.2.2 q.2.1 sShut) := ⟨_, rfl⟩
      have hR2 : r = (.one ⟨26, s.1, rl.2.1, e0, 0⟩ rl.1, rl.2) := by rw [hR, hrl]
      have hL : P ∧ ∃ q, listM X.l (labR X.l 27 (fun f => exM X.l f .expr)) sShut f true ((s.1 + 1, s.2) : Sd).2 ((s.1 + 1, s.2) : Sd).1 = some q ∧ rl = (q.1, wantM X.l q.2.2 q.2.1 sShut) := ⟨hP, q, hq, hrl⟩
      have HL := Lib.hid hL
      have HR2 := Lib.hid hR2
      have HG := Lib.hid hg
      have HIR := Lib.hid (IE.out hP)
      clear hR hm hp hnx hq hrl hR2 hL H1 H2 HP hP hg h3 IE IP IW IB
      have CT := Lib.hid (take_yes X s ⟨#[123]⟩ _ L1.out.st (by decide) q2)
      go_wp2_with fail
      refine CT.out.mono ?_
      rintro e wa ⟨rfl, hSw, hFw⟩
      have LA := Lib.hid (L1.out.step hSw hFw)
      clear hSw hFw CT
      clear q2
      go_wp2_with fail
      refine (labelled_any X 27 268 _).mono ?_
      rintro e wb ⟨rfl, hwb⟩
      have I0 : Hid (LabI X 27 268 wa.heap.size wb) := by unfold Hid; rw [hwb]; exact LabI.new (LA.out.st.lt)
      have LB : Hid (LS X w wb (s.1 + 1, s.2) [(w.heap.size, 38, zcc)] [] (.slice none 0 0) .nil) := by unfold Hid; rw [hwb]; exact LA.out.other ((((Below.refl _ _).alloc (Nat.le_refl _) _).alloc (by simp) _).alloc (by simp; omega) _)
      clear hwb
      go_wp2_with fail
      refine (list_q X P (labR X.l 27 (fun f => exM X.l f .expr)) ⟨#[125]⟩ f hf (by decide) (by decide) 279 #[] #[.pointer (some ⟨wa.heap.size, 0, none⟩), .pointer (some ⟨wa.heap.size + 1, 0, none⟩), .pointer (some ⟨wa.heap.size + 2, 0, none⟩)] (LabI X 27 268 wa.heap.size) (fun w w' h hf => h.keep hf) (fun w => enter279 _ w) (fun f' hf' => lab_q X P _ exM_keeps 27 268 wa.heap.size f' (fun w => enter268 _ w) (HIR.out f' hf')) (s.1 + 1, s.2) wb rl I0.out (fun _ => HL.out) (fun h => absurd h (by have := HG.out; dsimp only; omega)) LB.out.st).mono ?_
      rintro e wc ⟨v, K, rfl, hown, hSc, hFc, hKc, hlen⟩
      have LC := Lib.hid (LB.out.give hSc hFc hown)
      obtain ⟨A, cap, hv, hcap, _⟩ := LC.out.list
      subst hv
      have LD := Lib.hid LC.out.toKid
      have HKC := Lib.hid hKc
      clear hown hSc hFc hKc LC LB I0
      have HR : Hid (rl.2.2 < 0 → r = (.one ⟨26, p, pos X rl.2, e0, 0⟩ K, rl.2)) := fun h => by rw [HR2.out, HKC.out h, HPS.out, pos_good h]
      have HB : Hid (0 ≤ rl.2.2 → r.2.2 = rl.2.2) := fun h => by rw [HR2.out]
      clear HL HR2 HKC HG HIR
      go_wp2_with fail
      refine (node_any X rl.2 26 p (A) K.len cap _ LD.out.st).mono ?_
      rintro e wd ⟨rfl, hbw⟩
      have LEb := Lib.hid (LD.out.other hbw)
      have u1 := (LEb.out.row 0 rfl).cell
      have u2 := (LEb.out.row 0 rfl).thaw
      have LE := Lib.hid (LEb.out.put6 0 rfl rfl (.int .i64 26) (.int .i64 p) (.int .i64 (pos X rl.2)) (.string e0) (.int .i64 0) (.slice (A) K.len cap))
      clear hbw
      go_wp2
      refine bodyPost_ret ?_ rfl ⟨⟨26, p, pos X rl.2, e0, 0⟩, K, A, cap, rfl, (LE.out.kidP 0 rfl).new_ (fun g h => h.1), PSt.to LE.out.st (fun h => by rw [HR.out h]) HB.out, LE.out.fr, ?_⟩
      · simp [results, Tryz.results293, go_sem, u1]
        try first | rfl | exact ⟨rfl, rfl⟩
      · intro hh
        rw [HR.out (by by_cases h : (rl.2 : Sd).2 < 0; exact h; rw [HB.out (by omega)] at hh; exact absurd hh h)]
  · obtain ⟨hg, hm, hp, hnx⟩ := tk_lt L0.out.st q1
    have HPS := Lib.hid (HP.out.trans hp)
    have hP := (H1.out hg).1
    have h3 := (H1.out hg).2
    obtain ⟨x, hx, hR⟩ := at_group h3 hg hm
    have CT2 : Hid (∀ w', PSt X w' (s.1 + 1, s.2) → Calls Tryz.prog 268 #[X.p] w' (NodeQ X w' x)) := fun w' h => IE.out hP f (Nat.le_refl _) (s.1 + 1, s.2) w' x (fun _ => ⟨hP, hx⟩) (fun h => absurd h (by dsimp only; omega)) h
    obtain ⟨s3, hs3⟩ : ∃ s3, s3 = wantS X x.2 sParS := ⟨_, rfl⟩
    have HS3 := Lib.hid hs3
    have HR2 : Hid (r = (.one ⟨25, s.1, s3.1, e0, 0⟩ x.1, s3)) := by unfold Hid; rw [hR, hs3]; rfl
    clear hR hm hp hnx hg h3 hP hx hs3 H1 H2 HP IE IP IW IB
    have CT := Lib.hid (take_yes X s ⟨#[40]⟩ _ L0.out.st (by decide) q1)
    go_wp2_with fail
    refine CT.out.mono ?_
    rintro e wa ⟨rfl, hSw, hFw⟩
    have LA := Lib.hid (L0.out.step hSw hFw)
    clear hSw hFw CT
    clear q1
    go_wp2_with fail
    refine (CT2.out _ LA.out.st).mono ?_
    rintro e wb ⟨h1, k1, A1, c1, rfl, hKw, hSw, hFw, hN1⟩
    obtain ⟨x11, x12, x13, x14, x15⟩ := h1
    have LB := Lib.hid (LA.out.kid hSw hFw hKw)
    have HN1 := Lib.hid hN1
    clear hSw hFw hKw hN1
    have LC := Lib.hid (LB.out.alloc wb.heap.size rfl 38 (ncc ⟨x11, x12, x13, x14, x15⟩ A1 k1.len c1))
    clear CT2
    have CW := Lib.hid (want_any X x.2 ⟨#[41]⟩ _ LC.out.st (by decide))
    go_wp2_with fail
    refine CW.out.mono ?_
    rintro e wd ⟨rfl, hSw, hFw⟩
    have LD0 := Lib.hid (LC.out.step hSw hFw)
    clear hSw hFw CW
    have LD : Hid (LS X w wd s3 [(wb.heap.size, 38, ncc ⟨x11, x12, x13, x14, x15⟩ A1 k1.len c1), (w.heap.size, 38, zcc)] [(k1, A1, c1)] (.slice none 0 0) .nil) := by unfold Hid; rw [HS3.out]; exact LD0.out
    have n1 := (LD.out.row 0 rfl).cell
    have LE := Lib.hid (LD.out.slice wd.heap.size rfl (k := .one ⟨x11, x12, x13, x14, x15⟩ k1) (cs := ncc ⟨x11, x12, x13, x14, x15⟩ A1 k1.len c1) (FC.one (LD.out.kidP 0 rfl)))
    have HR : Hid (s3.2 < 0 → r = (.one ⟨25, p, pos X s3, e0, 0⟩ (.one ⟨x11, x12, x13, x14, x15⟩ k1), s3)) := fun h => by
      have h1 : (wantS X x.2 sParS).2 < 0 := by rw [← HS3.out]; exact h
      rw [HR2.out, HN1.out (wantS_good h1).1, HPS.out, pos_good h]
    have HB : Hid (0 ≤ s3.2 → r.2.2 = s3.2) := fun h => by rw [HR2.out]
    clear LD0 HR2 HN1 HS3 HPS
    go_wp2_with fail
    refine (node_any X s3 25 p (some ⟨wd.heap.size, 0, none⟩) 1 1 _ LE.out.st).mono ?_
    rintro e wf ⟨rfl, hbw⟩
    have LFb := Lib.hid (LE.out.other hbw)
    have u1 := (LFb.out.row 1 rfl).cell
    have u2 := (LFb.out.row 1 rfl).thaw
    have LF := Lib.hid (LFb.out.put6 1 rfl rfl (.int .i64 25) (.int .i64 p) (.int .i64 (pos X s3)) (.string e0) (.int .i64 0) (.slice (some ⟨wd.heap.size, 0, none⟩) 1 1))
    clear hbw
    go_wp2
    refine bodyPost_ret ?_ rfl ⟨⟨25, p, pos X s3, e0, 0⟩, (.one ⟨x11, x12, x13, x14, x15⟩ k1), some ⟨wd.heap.size, 0, none⟩, 1, rfl, (LF.out.kidP 0 rfl).new_ (fun g h => h.1), PSt.to LF.out.st (fun h => by rw [HR.out h]) HB.out, LF.out.fr, ?_⟩
    · simp [results, Tryz.results293, go_sem, u1]
      try first | rfl | exact ⟨rfl, rfl⟩
    · intro hh
      rw [HR.out (by by_cases h : (s3 : Sd).2 < 0; exact h; rw [HB.out (by omega)] at hh; exact absurd hh h)]
end Pg
end Go.Proofs.YthjflofcgdfekaaGreatDoor
