import Derived.Test.YtiabkkdeonepgaaGreatDoorXG
import Derived.Deep.RegionLaw
import Derived.Laws.OwnMore
import Derived.Deep.CutRange
import Derived.Test.YtiabkkdeonepgaaGreatDoorXF
set_option maxRecDepth 100000
namespace Go.Proofs.YtiabkkdeonepgaaGreatDoor
open Go.RowKit
namespace Pg
open Ps
theorem isM_kind {l : List Tok} {i : Nat} {x : List UInt8} (h : isM l i x = true) : kindAt l i = 2 ∨ kindAt l i = 5 := by
  unfold isM at h
  unfold kindAt
  cases hl : l[i]? with
  | none => rw [hl] at h; cases h
  | some t =>
    rw [hl] at h
    simp only [Bool.and_eq_true, Bool.or_eq_true, beq_iff_eq] at h
    exact h.1
theorem hasK_good {X : Cx} {s : Sd} {k : Nat} (h : hasK X s k = true) : s.2 < 0 ∧ kindAt X.l s.1 = k := by
  unfold hasK at h
  rw [Bool.and_eq_true, decide_eq_true_eq, decide_eq_true_eq] at h
  exact h
theorem hasK_bad {X : Cx} {s : Sd} {k : Nat} (h : hasK X s k = false) : 0 ≤ s.2 ∨ kindAt X.l s.1 ≠ k := by
  unfold hasK at h
  rw [Bool.and_eq_false_iff, decide_eq_false_iff_not, decide_eq_false_iff_not] at h
  rcases h with h | h
  · left; omega
  · exact .inr h
theorem at_leaf {l : List Tok} {f : Nat} {b : Int} {i : Nat} {r : Fo × Nat × Int} (h : exM l (f + 1) .atom b i = some r) (hb : b < 0) (k kd : Nat) (hk : k = 3 ∧ kd = 21 ∨ k = 4 ∧ kd = 22 ∨ k = 1 ∧ kd = 23) (hm : kindAt l i = k) : r = (.one ⟨kd, i, i + 1, textAt l i, i⟩ .nil, i + 1, b) := by
  rw [exM, if_neg (by omega)] at h
  rcases hk with ⟨rfl, rfl⟩ | ⟨rfl, rfl⟩ | ⟨rfl, rfl⟩
  · rw [if_pos hm] at h; injection h with h; exact h.symm
  · rw [if_neg (by omega), if_pos hm] at h; injection h with h; exact h.symm
  · rw [if_neg (by omega), if_neg (by omega), if_pos hm] at h; injection h with h; exact h.symm
theorem at_key {l : List Tok} {f : Nat} {b : Int} {i : Nat} {r : Fo × Nat × Int} {x : List UInt8} (h : exM l (f + 1) .atom b i = some r) (hb : b < 0) (hm : isM l i x = true) :
    (if isM l i kInput = true then some (.one ⟨24, i, i + 1, e0, 0⟩ .nil, i + 1, b)
    else if isM l i sParO = true then
      (exM l f .expr b (i + 1)).bind fun x =>
        let y := wantM l x.2.2 x.2.1 sParS
        some (.one ⟨25, i, y.1, e0, 0⟩ x.1, y.1, y.2)
    else if isM l i sOpen = true then
      (exM l f (.entries true) b (i + 1)).bind fun x =>
        let y := wantM l x.2.2 x.2.1 sShut
        some (.one ⟨26, i, y.1, e0, 0⟩ x.1, y.1, y.2)
    else
      let y := wantM l b i kFn
      (exM l f .lambda y.2 y.1).bind fun k =>
        some (.one ⟨28, i, k.2.1, e0, 0⟩ k.1, k.2.1, k.2.2)) = some r := by
  have hk := isM_kind hm
  rw [exM, if_neg (by omega), if_neg (by omega), if_neg (by omega), if_neg (by omega)] at h
  exact h
theorem at_input {l : List Tok} {f : Nat} {b : Int} {i : Nat} {r : Fo × Nat × Int} (h : exM l (f + 1) .atom b i = some r) (hb : b < 0) (hm : isM l i kInput = true) : r = (.one ⟨24, i, i + 1, e0, 0⟩ .nil, i + 1, b) := by
  have h := at_key h hb hm
  rw [if_pos hm] at h; injection h with h; exact h.symm
theorem at_group {l : List Tok} {f : Nat} {b : Int} {i : Nat} {r : Fo × Nat × Int} (h : exM l (f + 1) .atom b i = some r) (hb : b < 0) (hm : isM l i sParO = true) : ∃ x, exM l f .expr b (i + 1) = some x ∧ r = (.one ⟨25, i, (wantM l x.2.2 x.2.1 sParS).1, e0, 0⟩ x.1, wantM l x.2.2 x.2.1 sParS) := by
  have h := at_key h hb hm
  rw [if_neg (by rw [isM_ne hm (by decide)]; simp), if_pos hm] at h
  obtain ⟨x, hx, h⟩ := Option.bind_eq_some_iff.1 h
  injection h with h
  exact ⟨x, hx, h.symm⟩
theorem at_rec {l : List Tok} {f : Nat} {b : Int} {i : Nat} {r : Fo × Nat × Int} (h : exM l (f + 1) .atom b i = some r) (hb : b < 0) (hm : isM l i sOpen = true) :
    ∃ q, listM l (labR l 27 (fun f => exM l f .expr)) sShut f true b (i + 1) = some q ∧ r = (.one ⟨26, i, (wantM l q.2.2 q.2.1 sShut).1, e0, 0⟩ q.1, wantM l q.2.2 q.2.1 sShut) := by
  have h := at_key h hb hm
  rw [if_neg (by rw [isM_ne hm (by decide)]; simp), if_neg (by rw [isM_ne hm (by decide)]; simp), if_pos hm] at h
  obtain ⟨x, hx, h⟩ := Option.bind_eq_some_iff.1 h
  injection h with h
  exact ⟨x, by rw [← entries_list]; exact hx, h.symm⟩
theorem lam_parts {l : List Tok} {f : Nat} {b : Int} {i : Nat} {r : Fo × Nat × Int} (h : exM l f .lambda b i = some r) :
    ∃ f' p t k, f = f' + 1 ∧ paramsM l f' b i = some p ∧ typedM l f' p.2.2 p.2.1 = some t ∧ exM l f' .block t.2.2 t.2.1 = some k ∧ r = (p.1.app (t.1.app k.1), k.2) := by
  cases f with
  | zero => rw [exM] at h; cases h
  | succ f =>
    rw [exM] at h
    obtain ⟨p, h1, h⟩ := Option.bind_eq_some_iff.1 h
    obtain ⟨t, h2, h⟩ := Option.bind_eq_some_iff.1 h
    obtain ⟨k, h3, h⟩ := Option.bind_eq_some_iff.1 h
    injection h with h
    exact ⟨f, p, t, k, rfl, h1, h2, h3, h.symm⟩
theorem at_lam {l : List Tok} {f : Nat} {b : Int} {i : Nat} {r : Fo × Nat × Int} (h : exM l (f + 1) .atom b i = some r) (hb : b < 0) (hm : isM l i kFn = true) :
    ∃ f' p t k, f = f' + 1 ∧ paramsM l f' b (i + 1) = some p ∧ typedM l f' p.2.2 p.2.1 = some t ∧ exM l f' .block t.2.2 t.2.1 = some k ∧ r = (.one ⟨28, i, k.2.1, e0, 0⟩ (p.1.app (t.1.app k.1)), k.2) := by
  have h := at_key h hb hm
  have hw : wantM l b i kFn = (i + 1, b) := by unfold wantM; rw [if_neg (by omega), if_pos hm]
  rw [if_neg (by rw [isM_ne hm (by decide)]; simp), if_neg (by rw [isM_ne hm (by decide)]; simp), if_neg (by rw [isM_ne hm (by decide)]; simp)] at h
  dsimp only at h
  rw [hw] at h
  obtain ⟨x, hx, h⟩ := Option.bind_eq_some_iff.1 h
  injection h with h
  obtain ⟨f', p, t, k, e1, e2, e3, e4, e5⟩ := lam_parts hx
  exact ⟨f', p, t, k, e1, e2, e3, e4, by rw [← h, e5]⟩
theorem lam_bad {l : List Tok} {f : Nat} {b : Int} {i : Nat} {r : Fo × Nat × Int} (hb : 0 ≤ b) (h : exM l f .lambda b i = some r) : r.2.2 = b := exM_bad _ _ _ _ _ hb h
theorem at_no {l : List Tok} {f : Nat} {b : Int} {i : Nat} {r : Fo × Nat × Int} (h : exM l (f + 1) .atom b i = some r) (hb : b < 0) (k3 : kindAt l i ≠ 3) (k4 : kindAt l i ≠ 4) (k1 : kindAt l i ≠ 1) (h1 : isM l i kInput = false) (h2 : isM l i sParO = false) (h3 : isM l i sOpen = false) (h4 : isM l i kFn = false) : r.2.2 = (i : Int) := by
  rw [exM, if_neg (by omega), if_neg k3, if_neg k4, if_neg k1, if_neg (by rw [h1]; simp), if_neg (by rw [h2]; simp), if_neg (by rw [h3]; simp)] at h
  have hw : wantM l b i kFn = (i, (i : Int)) := by unfold wantM; rw [if_neg (by omega), if_neg (by rw [h4]; simp)]
  dsimp only at h
  rw [hw] at h
  obtain ⟨x, hx, h⟩ := Option.bind_eq_some_iff.1 h
  have := lam_bad (by dsimp only; omega) hx
  injection h with h
  rw [← h]
  exact this
abbrev parmR (X : Cx) (f : Nat) : Sd → Res := fun s => paramsM X.l f s.2 s.1
abbrev wrtR (X : Cx) (f : Nat) : Sd → Res := fun s => typedM X.l f s.2 s.1
set_option maxHeartbeats 4000000 in
theorem atom_q (X : Cx) (P : Prop) (f : Nat) (hf : f ≤ 1000000) (IE : P → ∀ f', f' ≤ f → RuleQ X P (exR X f' .expr) 136) (IP : P → ∀ f', f' ≤ f → RuleQ X P (parmR X f') 100) (IW : P → ∀ f', f' ≤ f → RuleQ X P (wrtR X f') 101) (IB : P → ∀ f', f' ≤ f → RuleQ X P (exR X f' .block) 102) : RuleQ X P (exR X (f + 1) .atom) 162 := by
  intro s w r hr1 hr2 hS
  have L0 := Lib.hid ((LS.start hS).alloc w.heap.size rfl 25 zcc)
  have rr := hS.row.cell
  have hrb := hS.lt
  have hl := hS.len
  have hpl := hS.pos_lt
  obtain ⟨p, hp⟩ : ∃ p, p = pos X s := ⟨_, rfl⟩
  rw [← hp] at rr hpl
  have HP := Lib.hid hp
  have IE := Lib.hid IE
  have IP := Lib.hid IP
  have IW := Lib.hid IW
  have IB := Lib.hid IB
  have H1 := Lib.hid hr1
  have H2 := Lib.hid hr2
  clear hp hr1 hr2 hS
  go_enter Tryz.func162, Tryz.ntmps162
  cases q1 : tk X s sParO
  · have CT := Lib.hid (take_no X s ⟨#[40]⟩ _ L0.out.st (by decide) q1)
    go_wp2_with fail
    refine CT.out.mono ?_
    rintro e w1 ⟨rfl, hSw, hFw⟩
    have L1 := Lib.hid (L0.out.step hSw hFw)
    clear hSw hFw CT
    have Q1 := Lib.hid (tk_bad q1)
    clear q1
    cases q2 : tk X s sOpen
    · have CT := Lib.hid (take_no X s ⟨#[123]⟩ _ L1.out.st (by decide) q2)
      go_wp2_with fail
      refine CT.out.mono ?_
      rintro e w2 ⟨rfl, hSw, hFw⟩
      have L2 := Lib.hid (L1.out.step hSw hFw)
      clear hSw hFw CT
      have Q2 := Lib.hid (tk_bad q2)
      clear q2
      cases q3 : tk X s kFn
      · have CT := Lib.hid (take_no X s ⟨#[102, 110]⟩ _ L2.out.st (by decide) q3)
        go_wp2_with fail
        refine CT.out.mono ?_
        rintro e w3 ⟨rfl, hSw, hFw⟩
        have L3 := Lib.hid (L2.out.step hSw hFw)
        clear hSw hFw CT
        have Q3 := Lib.hid (tk_bad q3)
        clear q3
        cases q4 : tk X s kInput
        · have CT := Lib.hid (take_no X s ⟨#[105, 110, 112, 117, 116]⟩ _ L3.out.st (by decide) q4)
          go_wp2_with fail
          refine CT.out.mono ?_
          rintro e w4 ⟨rfl, hSw, hFw⟩
          have L4 := Lib.hid (L3.out.step hSw hFw)
          clear hSw hFw CT
          have Q4 := Lib.hid (tk_bad q4)
          clear q4
          have CH := has_any X s 3 _ L4.out.st (by decide) (by decide)
          cases q5 : hasK X s 3
          · rw [q5] at CH
            have CK := Lib.hid CH
            have Q5 := Lib.hid (hasK_bad q5)
            clear CH q5
            go_wp2_with fail
            refine CK.out.mono ?_
            rintro e w5 ⟨rfl, hbw⟩
            have L5 := Lib.hid (L4.out.other hbw)
            clear hbw CK
            have CH := has_any X s 4 _ L5.out.st (by decide) (by decide)
            cases q6 : hasK X s 4
            · rw [q6] at CH
              have CK := Lib.hid CH
              have Q6 := Lib.hid (hasK_bad q6)
              clear CH q6
              go_wp2_with fail
              refine CK.out.mono ?_
              rintro e w6 ⟨rfl, hbw⟩
              have L6 := Lib.hid (L5.out.other hbw)
              clear hbw CK
              have CH := has_any X s 1 _ L6.out.st (by decide) (by decide)
              cases q7 : hasK X s 1
              · rw [q7] at CH
                have CK := Lib.hid CH
                have Q7 := Lib.hid (hasK_bad q7)
                clear CH q7
                go_wp2_with fail
                refine CK.out.mono ?_
                rintro e w7 ⟨rfl, hbw⟩
                have L7 := Lib.hid (L6.out.other hbw)
                clear hbw CK
                have HFAIL : Hid (r.2.2 = (failS s).2) := by
                  unfold failS
                  by_cases hs : 0 ≤ s.2
                  · rw [if_pos hs]; exact H2.out hs
                  · rw [if_neg hs]
                    have h := (H1.out (by omega)).2
                    exact at_no h (by omega) (Q5.out.resolve_left hs) (Q6.out.resolve_left hs) (Q7.out.resolve_left hs) (Q4.out.resolve_left hs) (Q1.out.resolve_left hs) (Q2.out.resolve_left hs) (Q3.out.resolve_left hs)
                clear Q1 Q2 Q3 Q4 Q5 Q6 Q7 H1 H2 HP IE IP IW IB
                have CF := Lib.hid (fail_any X s _ L7.out.st)
                go_wp2_with fail
                refine CF.out.mono ?_
                rintro e wz ⟨rfl, hSw, hFw⟩
                have LYb := Lib.hid (L7.out.step hSw hFw)
                have u1 := (LYb.out.row 0 rfl).cell
                have u2 := (LYb.out.row 0 rfl).thaw
                have LY := Lib.hid (LYb.out.put6 0 rfl rfl (.int .i64 0) (.int .i64 0) (.int .i64 0) (.string ⟨#[]⟩) (.int .i64 0) (.slice none 0 0))
                clear hSw hFw CF
                go_wp2
                refine bodyPost_ret ?_ rfl ⟨⟨0, 0, 0, e0, 0⟩, .nil, none, 0, rfl, KV.nil _ _ _ _, PSt.to LY.out.st (fun h => absurd h (by have := failS_bad s; omega)) (fun _ => HFAIL.out), LY.out.fr, ?_⟩
                · simp [results, Tryz.results162, go_sem, u1]
                  try first | rfl | exact ⟨rfl, rfl⟩
                · intro hh
                  rw [HFAIL.out] at hh
                  exact absurd hh (by have := failS_bad s; omega)
              · rw [q7] at CH
                have CK := Lib.hid CH
                obtain ⟨hg, hk⟩ := hasK_good q7
                have hnx := kindAt_next L6.out.st.wf.toWf (i := s.1) (by omega)
                have hR := at_leaf (H1.out hg).2 hg 1 23 (.inr (.inr ⟨rfl, rfl⟩)) hk
                have HR2 := Lib.hid hR
                have HL2 := Lib.hid (fun w' h => leaf_any X s 23 w' h hg hnx)
                clear hR hnx hg hk q7 CH H1 H2 HP IE IP IW IB
                go_wp2_with fail
                refine CK.out.mono ?_
                rintro e wa ⟨rfl, hbw⟩
                have LA := Lib.hid (L6.out.other hbw)
                clear hbw CK
                go_wp2_with fail
                refine (HL2.out _ LA.out.st).mono ?_
                rintro e wb ⟨rfl, hSw, hFw⟩
                have LBb := Lib.hid (LA.out.step hSw hFw)
                have u1 := (LBb.out.row 0 rfl).cell
                have u2 := (LBb.out.row 0 rfl).thaw
                have LB := Lib.hid (LBb.out.put6 0 rfl rfl (.int .i64 23) (.int .i64 s.1) (.int .i64 ((s.1 + 1 : Nat) : Int)) (.string (textAt X.l s.1)) (.int .i64 s.1) (.slice none 0 0))
                clear hSw hFw HL2
                go_wp2
                refine bodyPost_ret ?_ rfl ⟨⟨23, s.1, s.1 + 1, textAt X.l s.1, s.1⟩, .nil, none, 0, rfl, KV.nil _ _ _ _, (by rw [HR2.out]; exact LB.out.st), LB.out.fr, fun _ => by rw [HR2.out]⟩
                simp [results, Tryz.results162, go_sem, u1]
                try first | rfl | exact ⟨rfl, rfl⟩
            · rw [q6] at CH
              have CK := Lib.hid CH
              obtain ⟨hg, hk⟩ := hasK_good q6
              have hnx := kindAt_next L5.out.st.wf.toWf (i := s.1) (by omega)
              have hR := at_leaf (H1.out hg).2 hg 4 22 (.inr (.inl ⟨rfl, rfl⟩)) hk
              have HR2 := Lib.hid hR
              have HL2 := Lib.hid (fun w' h => leaf_any X s 22 w' h hg hnx)
              clear hR hnx hg hk q6 CH H1 H2 HP IE IP IW IB
              go_wp2_with fail
              refine CK.out.mono ?_
              rintro e wa ⟨rfl, hbw⟩
              have LA := Lib.hid (L5.out.other hbw)
              clear hbw CK
              go_wp2_with fail
              refine (HL2.out _ LA.out.st).mono ?_
              rintro e wb ⟨rfl, hSw, hFw⟩
              have LBb := Lib.hid (LA.out.step hSw hFw)
              have u1 := (LBb.out.row 0 rfl).cell
              have u2 := (LBb.out.row 0 rfl).thaw
              have LB := Lib.hid (LBb.out.put6 0 rfl rfl (.int .i64 22) (.int .i64 s.1) (.int .i64 ((s.1 + 1 : Nat) : Int)) (.string (textAt X.l s.1)) (.int .i64 s.1) (.slice none 0 0))
              clear hSw hFw HL2
              go_wp2
              refine bodyPost_ret ?_ rfl ⟨⟨22, s.1, s.1 + 1, textAt X.l s.1, s.1⟩, .nil, none, 0, rfl, KV.nil _ _ _ _, (by rw [HR2.out]; exact LB.out.st), LB.out.fr, fun _ => by rw [HR2.out]⟩
              simp [results, Tryz.results162, go_sem, u1]
              try first | rfl | exact ⟨rfl, rfl⟩
          · rw [q5] at CH
            have CK := Lib.hid CH
            obtain ⟨hg, hk⟩ := hasK_good q5
            have hnx := kindAt_next L4.out.st.wf.toWf (i := s.1) (by omega)
            have hR := at_leaf (H1.out hg).2 hg 3 21 (.inl ⟨rfl, rfl⟩) hk
            have HR2 := Lib.hid hR
            have HL2 := Lib.hid (fun w' h => leaf_any X s 21 w' h hg hnx)
            clear hR hnx hg hk q5 CH H1 H2 HP IE IP IW IB
            go_wp2_with fail
            refine CK.out.mono ?_
            rintro e wa ⟨rfl, hbw⟩
            have LA := Lib.hid (L4.out.other hbw)
            clear hbw CK
            go_wp2_with fail
            refine (HL2.out _ LA.out.st).mono ?_
            rintro e wb ⟨rfl, hSw, hFw⟩
            have LBb := Lib.hid (LA.out.step hSw hFw)
            have u1 := (LBb.out.row 0 rfl).cell
            have u2 := (LBb.out.row 0 rfl).thaw
            have LB := Lib.hid (LBb.out.put6 0 rfl rfl (.int .i64 21) (.int .i64 s.1) (.int .i64 ((s.1 + 1 : Nat) : Int)) (.string (textAt X.l s.1)) (.int .i64 s.1) (.slice none 0 0))
            clear hSw hFw HL2
            go_wp2
            refine bodyPost_ret ?_ rfl ⟨⟨21, s.1, s.1 + 1, textAt X.l s.1, s.1⟩, .nil, none, 0, rfl, KV.nil _ _ _ _, (by rw [HR2.out]; exact LB.out.st), LB.out.fr, fun _ => by rw [HR2.out]⟩
            simp [results, Tryz.results162, go_sem, u1]
            try first | rfl | exact ⟨rfl, rfl⟩
        · obtain ⟨hg, hm, hp, hnx⟩ := tk_lt L3.out.st q4
          have HPS := Lib.hid (HP.out.trans hp)
          have hP := (H1.out hg).1
          have h3 := (H1.out hg).2
          have hR := at_input h3 hg hm
          have HR : Hid (((s.1 + 1, s.2) : Sd).2 < 0 → r = (.one ⟨24, p, pos X (s.1 + 1, s.2), e0, 0⟩ .nil, (s.1 + 1, s.2))) := fun h => by rw [hR, pos_good h, HPS.out]
          have HB : Hid (0 ≤ ((s.1 + 1, s.2) : Sd).2 → r.2.2 = ((s.1 + 1, s.2) : Sd).2) := fun h => absurd h (by dsimp only; omega)
          clear hR hm hp hnx hg h3 hP H1 H2 HP IE IP IW IB HPS
          have CT := Lib.hid (take_yes X s ⟨#[105, 110, 112, 117, 116]⟩ _ L3.out.st (by decide) q4)
          go_wp2_with fail
          refine CT.out.mono ?_
          rintro e wa ⟨rfl, hSw, hFw⟩
          have LA := Lib.hid (L3.out.step hSw hFw)
          clear hSw hFw CT
          clear q4
          go_wp2_with fail
          refine (node_any X (s.1 + 1, s.2) 24 p (none) 0 0 _ LA.out.st).mono ?_
          rintro e wb ⟨rfl, hbw⟩
          have LBb := Lib.hid (LA.out.other hbw)
          have u1 := (LBb.out.row 0 rfl).cell
          have u2 := (LBb.out.row 0 rfl).thaw
          have LB := Lib.hid (LBb.out.put6 0 rfl rfl (.int .i64 24) (.int .i64 p) (.int .i64 (pos X (s.1 + 1, s.2))) (.string e0) (.int .i64 0) (.slice (none) 0 0))
          clear hbw
          go_wp2
          refine bodyPost_ret ?_ rfl ⟨⟨24, p, pos X (s.1 + 1, s.2), e0, 0⟩, .nil, none, 0, rfl, KV.nil _ _ _ _, PSt.to LB.out.st (fun h => by rw [HR.out h]) HB.out, LB.out.fr, ?_⟩
          · simp [results, Tryz.results162, go_sem, u1]
            try first | rfl | exact ⟨rfl, rfl⟩
          · intro hh
            rw [HR.out (by by_cases h : ((s.1 + 1, s.2) : Sd).2 < 0; exact h; rw [HB.out (by omega)] at hh; exact absurd hh h)]
      · obtain ⟨hg, hm, hp, hnx⟩ := tk_lt L2.out.st q3
        have HPS := Lib.hid (HP.out.trans hp)
        have hP := (H1.out hg).1
        have h3 := (H1.out hg).2
        obtain ⟨f', pa, ty, bk, hf', hpa, hty, hbk, hR⟩ := at_lam h3 hg hm
        have C1 : Hid (∀ w', PSt X w' (s.1 + 1, s.2) → Calls Tryz.prog 100 #[X.p] w' (NodeQ X w' pa)) := fun w' h => IP.out hP f' (by omega) (s.1 + 1, s.2) w' pa (fun _ => ⟨hP, hpa⟩) (fun h => absurd h (by dsimp only; omega)) h
        have C2 : Hid (∀ w', PSt X w' pa.2 → Calls Tryz.prog 101 #[X.p] w' (NodeQ X w' ty)) := fun w' h => IW.out hP f' (by omega) pa.2 w' ty (fun _ => ⟨hP, hty⟩) (fun h => typedM_bad h hty) h
        have C3 : Hid (∀ w', PSt X w' ty.2 → Calls Tryz.prog 102 #[X.p] w' (NodeQ X w' bk)) := fun w' h => IB.out hP f' (by omega) ty.2 w' bk (fun _ => ⟨hP, hbk⟩) (fun h => exM_bad _ _ _ _ _ h hbk) h
        have HG3 : Hid (bk.2.2 < 0 → ty.2.2 < 0 ∧ pa.2.2 < 0) := fun h => by
          have g2 : ty.2.2 < 0 := by
            by_cases hh : 0 ≤ ty.2.2
            · have := exM_bad _ _ _ _ _ hh hbk; omega
            · omega
          refine ⟨g2, ?_⟩
          by_cases hh : 0 ≤ pa.2.2
          · have := typedM_bad hh hty; omega
          · omega
        have HR2 := Lib.hid hR
        clear hR hm hp hnx hg h3 hP hf' hpa hty hbk H1 H2 HP IE IP IW IB
        have CT := Lib.hid (take_yes X s ⟨#[102, 110]⟩ _ L2.out.st (by decide) q3)
        go_wp2_with fail
        refine CT.out.mono ?_
        rintro e wa ⟨rfl, hSw, hFw⟩
        have LA := Lib.hid (L2.out.step hSw hFw)
        clear hSw hFw CT
        clear q3
        go_wp2_with fail
        refine (C1.out _ LA.out.st).mono ?_
        rintro e wb ⟨h1, k1, A1, c1, rfl, hKw, hSw, hFw, hN1⟩
        obtain ⟨x11, x12, x13, x14, x15⟩ := h1
        have LB := Lib.hid (LA.out.kid hSw hFw hKw)
        have HN1 := Lib.hid hN1
        clear hSw hFw hKw hN1
        go_wp2_with fail
        refine (C2.out _ LB.out.st).mono ?_
        rintro e wc ⟨h2, k2, A2, c2, rfl, hKw, hSw, hFw, hN2⟩
        obtain ⟨x21, x22, x23, x24, x25⟩ := h2
        have LC := Lib.hid (LB.out.kid hSw hFw hKw)
        have HN2 := Lib.hid hN2
        clear hSw hFw hKw hN2
        go_wp2_with fail
        refine (C3.out _ LC.out.st).mono ?_
        rintro e wd ⟨h3, k3, A3, c3, rfl, hKw, hSw, hFw, hN3⟩
        obtain ⟨x31, x32, x33, x34, x35⟩ := h3
        have LD := Lib.hid (LC.out.kid hSw hFw hKw)
        have HN3 := Lib.hid hN3
        clear hSw hFw hKw hN3
        have LE := Lib.hid (LD.out.slice wd.heap.size rfl (KV.three (h1 := ⟨x11, x12, x13, x14, x15⟩) (h2 := ⟨x21, x22, x23, x24, x25⟩) (h3 := ⟨x31, x32, x33, x34, x35⟩) (LD.out.kidP 2 rfl) (LD.out.kidP 1 rfl) (LD.out.kidP 0 rfl)))
        have HR : Hid (bk.2.2 < 0 → r = (.one ⟨28, p, pos X bk.2, e0, 0⟩ ((Fo.one ⟨x11, x12, x13, x14, x15⟩ k1).app ((Fo.one ⟨x21, x22, x23, x24, x25⟩ k2).app (.one ⟨x31, x32, x33, x34, x35⟩ k3))), bk.2)) := fun h => by
          obtain ⟨g2, g1⟩ := HG3.out h
          rw [HR2.out, HN1.out g1, HN2.out g2, HN3.out h, HPS.out, pos_good h]
        have HB : Hid (0 ≤ bk.2.2 → r.2.2 = bk.2.2) := fun h => by rw [HR2.out]
        clear C1 C2 C3 HG3 HR2 HN1 HN2 HN3 HPS
        go_wp2_with fail
        refine (node_any X bk.2 28 p (some ⟨wd.heap.size, 0, none⟩) 3 3 _ LE.out.st).mono ?_
        rintro e wf ⟨rfl, hbw⟩
        have LFb := Lib.hid (LE.out.other hbw)
        have u1 := (LFb.out.row 0 rfl).cell
        have u2 := (LFb.out.row 0 rfl).thaw
        have LF := Lib.hid (LFb.out.put6 0 rfl rfl (.int .i64 28) (.int .i64 p) (.int .i64 (pos X bk.2)) (.string e0) (.int .i64 0) (.slice (some ⟨wd.heap.size, 0, none⟩) 3 3))
        clear hbw
        go_wp2
        refine bodyPost_ret ?_ rfl ⟨⟨28, p, pos X bk.2, e0, 0⟩, ((Fo.one ⟨x11, x12, x13, x14, x15⟩ k1).app ((Fo.one ⟨x21, x22, x23, x24, x25⟩ k2).app (.one ⟨x31, x32, x33, x34, x35⟩ k3))), some ⟨wd.heap.size, 0, none⟩, 3, rfl, (LF.out.kidP 0 rfl).new_ (fun g h => h.1), PSt.to LF.out.st (fun h => by rw [HR.out h]) HB.out, LF.out.fr, ?_⟩
        · simp [results, Tryz.results162, go_sem, u1]
          try first | rfl | exact ⟨rfl, rfl⟩
        · intro hh
          rw [HR.out (by by_cases h : (bk.2 : Sd).2 < 0; exact h; rw [HB.out (by omega)] at hh; exact absurd hh h)]
    · obtain ⟨hg, hm, hp, hnx⟩ := tk_lt L1.out.st q2
      have HPS := Lib.hid (HP.out.trans hp)
      have hP := (H1.out hg).1
      have h3 := (H1.out hg).2
      obtain ⟨q, hq, hR⟩ := at_rec h3 hg hm
      obtain ⟨rl, hrl⟩ : ∃ rl : Fo × Sd, rl = (q.1, wantM X.l q.2.2 q.2.1 sShut) := ⟨_, rfl⟩
      have hR2 : r = (.one ⟨26, s.1, rl.2.1, e0, 0⟩ rl.1, rl.2) := by rw [hR, hrl]
      have hL : P ∧ ∃ q, listM X.l (labR X.l 27 (fun f => exM X.l f .expr)) sShut f true ((s.1 + 1, s.2) : Sd).2 ((s.1 + 1, s.2) : Sd).1 = some q ∧ rl = (q.1, wantM X.l q.2.2 q.2.1 sShut) := ⟨hP, q, hq, hrl⟩
      have HL := Lib.hid hL
      have HR2 := Lib.hid hR2
      have HG := Lib.hid hg
      have HIR := Lib.hid (IE.out hP)
      clear hR hm hp hnx hq hrl hR2 hL H1 H2 HP hP hg h3 IE IP IW IB
      have CT := Lib.hid (take_yes X s ⟨#[123]⟩ _ L1.out.st (by decide) q2)
      go_wp2_with fail
      refine CT.out.mono ?_
      rintro e wa ⟨rfl, hSw, hFw⟩
      have LA := Lib.hid (L1.out.step hSw hFw)
      clear hSw hFw CT
      clear q2
      go_wp2_with fail
      refine (labelled_any X 27 136 _).mono ?_
      rintro e wb ⟨rfl, hwb⟩
      have I0 : Hid (LabI X 27 136 wa.heap.size wb) := by unfold Hid; rw [hwb]; exact LabI.new (LA.out.st.lt)
      have LB : Hid (LS X w wb (s.1 + 1, s.2) [(w.heap.size, 25, zcc)] [] (.slice none 0 0) .nil) := by unfold Hid; rw [hwb]; exact LA.out.other ((((Below.refl _ _).alloc (Nat.le_refl _) _).alloc (by simp) _).alloc (by simp; omega) _)
      clear hwb
      go_wp2_with fail
      refine (list_q X P (labR X.l 27 (fun f => exM X.l f .expr)) ⟨#[125]⟩ f hf (by decide) (by decide) 148 #[] #[.pointer (some ⟨wa.heap.size, 0, none⟩), .pointer (some ⟨wa.heap.size + 1, 0, none⟩), .pointer (some ⟨wa.heap.size + 2, 0, none⟩)] (LabI X 27 136 wa.heap.size) (fun w w' h hf => h.keep hf) (fun w => enter148 _ w) (fun f' hf' => lab_q X P _ exM_keeps 27 136 wa.heap.size f' (fun w => enter136 _ w) (HIR.out f' hf')) (s.1 + 1, s.2) wb rl I0.out (fun _ => HL.out) (fun h => absurd h (by have := HG.out; dsimp only; omega)) LB.out.st).mono ?_
      rintro e wc ⟨v, K, rfl, hown, hSc, hFc, hKc, hlen⟩
      have LC := Lib.hid (LB.out.give hSc hFc hown)
      obtain ⟨A, cap, hv, hcap, _⟩ := LC.out.list
      subst hv
      have LD := Lib.hid LC.out.toKid
      have HKC := Lib.hid hKc
      clear hown hSc hFc hKc LC LB I0
      have HR : Hid (rl.2.2 < 0 → r = (.one ⟨26, p, pos X rl.2, e0, 0⟩ K, rl.2)) := fun h => by rw [HR2.out, HKC.out h, HPS.out, pos_good h]
      have HB : Hid (0 ≤ rl.2.2 → r.2.2 = rl.2.2) := fun h => by rw [HR2.out]
      clear HL HR2 HKC HG HIR
      go_wp2_with fail
      refine (node_any X rl.2 26 p (A) K.len cap _ LD.out.st).mono ?_
      rintro e wd ⟨rfl, hbw⟩
      have LEb := Lib.hid (LD.out.other hbw)
      have u1 := (LEb.out.row 0 rfl).cell
      have u2 := (LEb.out.row 0 rfl).thaw
      have LE := Lib.hid (LEb.out.put6 0 rfl rfl (.int .i64 26) (.int .i64 p) (.int .i64 (pos X rl.2)) (.string e0) (.int .i64 0) (.slice (A) K.len cap))
      clear hbw
      go_wp2
      refine bodyPost_ret ?_ rfl ⟨⟨26, p, pos X rl.2, e0, 0⟩, K, A, cap, rfl, (LE.out.kidP 0 rfl).new_ (fun g h => h.1), PSt.to LE.out.st (fun h => by rw [HR.out h]) HB.out, LE.out.fr, ?_⟩
      · simp [results, Tryz.results162, go_sem, u1]
        try first | rfl | exact ⟨rfl, rfl⟩
      · intro hh
        rw [HR.out (by by_cases h : (rl.2 : Sd).2 < 0; exact h; rw [HB.out (by omega)] at hh; exact absurd hh h)]
  · obtain ⟨hg, hm, hp, hnx⟩ := tk_lt L0.out.st q1
    have HPS := Lib.hid (HP.out.trans hp)
    have hP := (H1.out hg).1
    have h3 := (H1.out hg).2
    obtain ⟨x, hx, hR⟩ := at_group h3 hg hm
    have CT2 : Hid (∀ w', PSt X w' (s.1 + 1, s.2) → Calls Tryz.prog 136 #[X.p] w' (NodeQ X w' x)) := fun w' h => IE.out hP f (Nat.le_refl _) (s.1 + 1, s.2) w' x (fun _ => ⟨hP, hx⟩) (fun h => absurd h (by dsimp only; omega)) h
    obtain ⟨s3, hs3⟩ : ∃ s3, s3 = wantS X x.2 sParS := ⟨_, rfl⟩
    have HS3 := Lib.hid hs3
    have HR2 : Hid (r = (.one ⟨25, s.1, s3.1, e0, 0⟩ x.1, s3)) := by unfold Hid; rw [hR, hs3]; rfl
    clear hR hm hp hnx hg h3 hP hx hs3 H1 H2 HP IE IP IW IB
    have CT := Lib.hid (take_yes X s ⟨#[40]⟩ _ L0.out.st (by decide) q1)
    go_wp2_with fail
    refine CT.out.mono ?_
    rintro e wa ⟨rfl, hSw, hFw⟩
    have LA := Lib.hid (L0.out.step hSw hFw)
    clear hSw hFw CT
    clear q1
    go_wp2_with fail
    refine (CT2.out _ LA.out.st).mono ?_
    rintro e wb ⟨h1, k1, A1, c1, rfl, hKw, hSw, hFw, hN1⟩
    obtain ⟨x11, x12, x13, x14, x15⟩ := h1
    have LB := Lib.hid (LA.out.kid hSw hFw hKw)
    have HN1 := Lib.hid hN1
    clear hSw hFw hKw hN1
    have LC := Lib.hid (LB.out.alloc wb.heap.size rfl 25 (ncc ⟨x11, x12, x13, x14, x15⟩ A1 k1.len c1))
    clear CT2
    have CW := Lib.hid (want_any X x.2 ⟨#[41]⟩ _ LC.out.st (by decide))
    go_wp2_with fail
    refine CW.out.mono ?_
    rintro e wd ⟨rfl, hSw, hFw⟩
    have LD0 := Lib.hid (LC.out.step hSw hFw)
    clear hSw hFw CW
    have LD : Hid (LS X w wd s3 [(wb.heap.size, 25, ncc ⟨x11, x12, x13, x14, x15⟩ A1 k1.len c1), (w.heap.size, 25, zcc)] [(k1, A1, c1)] (.slice none 0 0) .nil) := by unfold Hid; rw [HS3.out]; exact LD0.out
    have n1 := (LD.out.row 0 rfl).cell
    have LE := Lib.hid (LD.out.slice wd.heap.size rfl (k := .one ⟨x11, x12, x13, x14, x15⟩ k1) (cs := ncc ⟨x11, x12, x13, x14, x15⟩ A1 k1.len c1) (FC.one (LD.out.kidP 0 rfl)))
    have HR : Hid (s3.2 < 0 → r = (.one ⟨25, p, pos X s3, e0, 0⟩ (.one ⟨x11, x12, x13, x14, x15⟩ k1), s3)) := fun h => by
      have h1 : (wantS X x.2 sParS).2 < 0 := by rw [← HS3.out]; exact h
      rw [HR2.out, HN1.out (wantS_good h1).1, HPS.out, pos_good h]
    have HB : Hid (0 ≤ s3.2 → r.2.2 = s3.2) := fun h => by rw [HR2.out]
    clear LD0 HR2 HN1 HS3 HPS
    go_wp2_with fail
    refine (node_any X s3 25 p (some ⟨wd.heap.size, 0, none⟩) 1 1 _ LE.out.st).mono ?_
    rintro e wf ⟨rfl, hbw⟩
    have LFb := Lib.hid (LE.out.other hbw)
    have u1 := (LFb.out.row 1 rfl).cell
    have u2 := (LFb.out.row 1 rfl).thaw
    have LF := Lib.hid (LFb.out.put6 1 rfl rfl (.int .i64 25) (.int .i64 p) (.int .i64 (pos X s3)) (.string e0) (.int .i64 0) (.slice (some ⟨wd.heap.size, 0, none⟩) 1 1))
    clear hbw
    go_wp2
    refine bodyPost_ret ?_ rfl ⟨⟨25, p, pos X s3, e0, 0⟩, (.one ⟨x11, x12, x13, x14, x15⟩ k1), some ⟨wd.heap.size, 0, none⟩, 1, rfl, (LF.out.kidP 0 rfl).new_ (fun g h => h.1), PSt.to LF.out.st (fun h => by rw [HR.out h]) HB.out, LF.out.fr, ?_⟩
    · simp [results, Tryz.results162, go_sem, u1]
      try first | rfl | exact ⟨rfl, rfl⟩
    · intro hh
      rw [HR.out (by by_cases h : (s3 : Sd).2 < 0; exact h; rw [HB.out (by omega)] at hh; exact absurd hh h)]
end Pg
end Go.Proofs.YtiabkkdeonepgaaGreatDoor
namespace Go.Proofs.YtiabkkdeonepgaaGreatDoor
open Go.RowKit
namespace Pg
open Ps
theorem NodesQ.kv {X : Cx} {n : Nat} {w w' : World} {r : Fo × Sd} {e : Ending} (h : NodesQ X n w r e w') :
    ∃ AL KL cL, e = .returned (.slice AL KL.len cL) ∧ KV w' (fun g => w.heap.size ≤ g) KL AL cL ∧ PSt X w' r.2 ∧ Fr X.rb w.heap.size w w' ∧ (r.2.2 < 0 → r.1 = KL) ∧ KL.len ≤ n ∧ (AL = none → KL.len = 0 ∧ cL = 0) := by
  obtain ⟨v, K, rfl, ⟨cs, o1, o2⟩, hS, hF, hK, hn⟩ := h
  have hv : ∃ A cap, v = .slice A K.len cap ∧ K.len ≤ cap ∧ (A = none → K.len = 0 ∧ cap = 0) := by
    rcases o1.2 with ⟨rfl, e⟩ | ⟨g, cap, cur, rfl, _, _, hc, _⟩
    · exact ⟨none, 0, by rw [e], by omega, fun _ => ⟨e, rfl⟩⟩
    · exact ⟨_, cap, rfl, hc, fun h => by cases h⟩
  obtain ⟨A, cap, rfl, hc, hnn⟩ := hv
  exact ⟨A, K, cap, rfl, KV.of_own o1 rfl o2 (fun g hg => hg.1) (fun g hg _ => hg) hc, hS, hF, hK, hn, hnn⟩
theorem Ks_head {X : Cx} {w0 w : World} {b : Sd} {Rs : List Row} {Ks : List Kid} {v : Value} {K : Fo} {k : Fo} {A : Option Addr} {cap : Nat} (h : LS X w0 w b Rs ((k, A, cap) :: Ks) v K) : KV w (PB w0.heap.size Rs v) k A cap := h.kvs (k, A, cap) List.mem_cons_self
set_option maxHeartbeats 1000000 in
theorem step_append_kid {X : Cx} {w0 w : World} {st : Sd} {Rs : List Row} {Ks : List Kid} {g0 : Nat} {h1 : Hd} {k1 KL : Fo} {AL : Option Addr} {cL : Nat} {ops : Array Oper} {o : Oper} {a : Act} {K : Act → World → Prop} {Q : Exit → Act → World → Prop} {E : Prop} (hgd : o.guard = none) (s x : Operand)
    (ho : o.op = .call { callee := .builtin .append, args := #[s, x], argTypes := #[23, 23] })
    (L : LS X w0 w st Rs ((KL, AL, cL) :: Ks) (.slice (some ⟨g0, 0, none⟩) 1 1) (.one h1 k1)) (hs : a.eval s = .slice (some ⟨g0, 0, none⟩) 1 1) (hx : a.eval x = .slice AL KL.len cL) (hn : AL = none → KL.len = 0 ∧ cL = 0) (hlen : KL.len ≤ 1000001)
    (h : ∀ A' c' w', LS X w0 w' st Rs ((KL, AL, cL) :: Ks) (.slice A' ((Fo.one h1 k1).app KL).len c') ((Fo.one h1 k1).app KL) → K (a.put o.dst (.slice A' ((Fo.one h1 k1).app KL).len c')) w') :
    if Region.wanted o (yielded ops a.tmps) = true then Oper.wp Tryz.prog o a w K Q else E := by
  have hw : Region.wanted o (yielded ops a.tmps) = true := by simp [Region.wanted, hgd]
  rw [if_pos hw]
  obtain ⟨i0, hi0, hz0, hz1, hz2⟩ := info_parts info25
  obtain ⟨cs, o1, o2⟩ := L.own
  have hk := Ks_head L
  cases AL with
  | none =>
    obtain ⟨e1, e2⟩ := hn rfl
    subst e2
    have hK : KL = .nil := by
      cases KL with
      | nil => rfl
      | cons a b c => simp [Fo.len] at e1
    subst hK
    have hrun := run_append_owned_none (P := Tryz.prog) (w := w) w0.heap.size 23 o.type 25 i0 6 Tryz.underlying23 hi0 _ 1 cs (show w.ownsRow w0.heap.size 25 6 (.slice (some ⟨g0, 0, none⟩) 1 1) 1 cs from o1)
    unfold Oper.wp
    simp only [execOp, ho, resolve, invoke, builtin, Sem.run_bind, Sem.run_pure, Result.andThen_ok, List.map_toArray, List.map_cons, List.map_nil, hs, hx]
    rw [show (Fo.nil : Fo).len = 0 from rfl, hrun]
    have := h (some ⟨g0, 0, none⟩) 1 w (by rw [Fo.app_nil]; exact L)
    rw [Fo.app_nil] at this
    exact this
  | some ad =>
    obtain ⟨ck, f1, f2⟩ : ∃ ck, FC w (PB w0.heap.size Rs (.slice (some ⟨g0, 0, none⟩) 1 1)) KL ck ∧ ∀ j u, ck[j]? = some u → w.cell? (ad.add j) = some u := by
      by_cases hl : 0 < KL.len
      · obtain ⟨g, oo, ck, e, _, _, hc, hf⟩ := hk.2 hl
        injection e with e
        subst e
        refine ⟨ck, hf, fun j u hu => ?_⟩
        rw [show (⟨g, oo, none⟩ : Addr).add j = ⟨g, oo + j, none⟩ by simp only [Addr.add]; by_cases hj : j = 0 <;> simp [hj]]
        exact hc j u hu
      · have hK : KL = .nil := by
          cases KL with
          | nil => rfl
          | cons a b c => simp [Fo.len] at hl
        subst hK
        exact ⟨[], by rw [FC], fun j u hu => by simp at hu⟩
    have b3 : 1 + KL.len ≤ maxLen := by unfold maxLen; omega
    have b4 : (1 + KL.len) * i0.bytes ≤ 140737488355328 := by rw [hz2]; omega
    have b5 := L.size
    have hl := FC.len _ _ f1
    obtain ⟨v', w', hr, h2, h3, _⟩ := run_append_own (P := Tryz.prog) (w := w) w0.heap.size 23 o.type 25 i0 _ 6 72 Tryz.underlying23 hi0 hz0 hz1 hz2 rfl (by decide) _ 1 cs (show w.ownsRow w0.heap.size 25 6 (.slice (some ⟨g0, 0, none⟩) 1 1) 1 cs from o1) ad KL.len cL ck (by rw [hl]) f2 (FC.cell1 _ _ f1) b3 (by rw [← hz2]; exact b4) b5
    have h5 := append_at (P := Tryz.prog) w0.heap.size 23 o.type 25 i0 _ Tryz.underlying23 hi0 hz0 (by rw [hz1]; rfl) (by rw [hz1]; decide) _ 1 cs (by rw [hz1]; exact o1) ad KL.len cL ck (by rw [hz1, hl]) f2 (FC.cell1 _ _ f1) b3 b4 v' w' hr
    have M := L.push (k := KL) ⟨o1, o2⟩ f1 h2 h3 (fun j hj => h5 j hj)
    obtain ⟨A', c', e, hcc, _⟩ := M.list
    subst e
    unfold Oper.wp execOp
    simp only [ho, resolve, invoke, builtin, Sem.run_bind, Sem.run_pure, Result.andThen_ok, List.map_toArray, List.map_cons, List.map_nil, hs, hx, hr]
    exact h A' c' w' M
theorem postL_end {l : List Tok} {f : Nat} {a : Fo} {b : Int} {i : Nat} {r : Fo × Nat × Int} (h : exM l f (.postL a) b i = some r) (h1 : isM l i sDot = false) (h2 : isM l i sParO = false) : r = (a, i, b) := by
  cases f with
  | zero => rw [exM] at h; cases h
  | succ f => rw [exM, if_neg (by simp [h1, h2])] at h; injection h with h; exact h.symm
theorem postL_dot {l : List Tok} {f : Nat} {a : Fo} {b : Int} {i : Nat} {r : Fo × Nat × Int} (h : exM l f (.postL a) b i = some r) (hb : b < 0) (hc : isM l i sDot = true) :
    ∃ f', f = f' + 1 ∧ exM l f' (.postL (.one { (wordM l b ⟨19, a.from_, 0, e0, 0⟩ (i + 1)).1 with til := (wordM l b ⟨19, a.from_, 0, e0, 0⟩ (i + 1)).2.1 } a)) (wordM l b ⟨19, a.from_, 0, e0, 0⟩ (i + 1)).2.2 (wordM l b ⟨19, a.from_, 0, e0, 0⟩ (i + 1)).2.1 = some r := by
  cases f with
  | zero => rw [exM] at h; cases h
  | succ f => rw [exM, if_pos ⟨hb, .inl hc⟩, if_pos hc] at h; exact ⟨f, rfl, h⟩
theorem postL_call {l : List Tok} {f : Nat} {a : Fo} {b : Int} {i : Nat} {r : Fo × Nat × Int} (h : exM l f (.postL a) b i = some r) (hb : b < 0) (ho : isM l i sParO = true) :
    ∃ f' q, f = f' + 1 ∧ listM l (fun f => exM l f .expr) sParS f' true b (i + 1) = some q ∧ exM l f' (.postL (.one ⟨20, a.from_, (wantM l q.2.2 q.2.1 sParS).1, e0, 0⟩ (a.app q.1))) (wantM l q.2.2 q.2.1 sParS).2 (wantM l q.2.2 q.2.1 sParS).1 = some r := by
  cases f with
  | zero => rw [exM] at h; cases h
  | succ f =>
    have hc : isM l i sDot = false := isM_ne ho (by decide)
    rw [exM, if_pos ⟨hb, .inr ho⟩, if_neg (by rw [hc]; simp)] at h
    obtain ⟨k, h1, h2⟩ := Option.bind_eq_some_iff.1 h
    exact ⟨f, k, rfl, by rw [← args_list]; exact h1, h2⟩
set_option maxHeartbeats 8000000 in
theorem post_q (X : Cx) (P : Prop) (f : Nat) (hf : f ≤ 1000000) (I : ∀ f', f' ≤ f → RuleQ X P (exR X f' .atom) 162) (IE : P → ∀ f', f' ≤ f → RuleQ X P (exR X f' .expr) 136) : RuleQ X P (exR X (f + 1) .post) 159 := by
  intro s w r hr1 hr2 hS
  obtain ⟨a, ha1, ha2, hb, hfr⟩ : ∃ a : Fo × Sd, (s.2 < 0 → P ∧ exR X f .atom s = some a) ∧ (0 ≤ s.2 → a.2.2 = s.2) ∧ (0 ≤ a.2.2 → r.2.2 = a.2.2) ∧ (a.2.2 < 0 → P ∧ a.1.from_ = pos X s ∧ exM X.l f (.postL a.1) a.2.2 a.2.1 = some r) := by
    by_cases hs : 0 ≤ s.2
    · exact ⟨(.nil, s), fun h => absurd h (by omega), fun _ => rfl, fun _ => hr2 hs, fun h => absurd h (by dsimp only; omega)⟩
    · obtain ⟨hP, h⟩ := hr1 (by omega)
      unfold exR at h
      rw [exM] at h
      obtain ⟨a, ha, h⟩ := Option.bind_eq_some_iff.1 h
      exact ⟨a, fun _ => ⟨hP, ha⟩, fun h => absurd h hs, fun hb => exM_bad _ _ _ _ _ hb h, fun hb => ⟨hP, by rw [pos_good (by omega)]; exact exM_from _ _ _ _ _ _ rfl ha hb, h⟩⟩
  have L0 := Lib.hid ((LS.start hS).alloc w.heap.size rfl 25 zcc)
  have rr := hS.row.cell
  have hrb := hS.lt
  have hl := hS.len
  have hpl := hS.pos_lt
  have C1 : Hid (∀ w', PSt X w' s → Calls Tryz.prog 162 #[X.p] w' (NodeQ X w' a)) := fun w' h => I f (Nat.le_refl _) s w' a ha1 ha2 h
  have HI := Lib.hid IE
  have HB := Lib.hid hb
  have HFR := Lib.hid hfr
  clear hr1 hr2 ha1 ha2 hb hfr hS I IE
  obtain ⟨af, a2⟩ := a
  dsimp only at *
  generalize pos X s = p at *
  go_enter Tryz.func159, Tryz.ntmps159
  go_wp2_with fail
  refine (C1.out _ L0.out.st).mono ?_
  rintro e w1 ⟨h1, k1, A1, c1, rfl, hK1, hS1, hF1, hN1⟩
  have L1 := Lib.hid ((L0.out.kid hS1 hF1 hK1).alloc w1.heap.size rfl 25 (ncc h1 A1 k1.len c1))
  obtain ⟨x1, x2, x3, x4, x5⟩ := h1
  have INV0 : Hid (InvL X P r p f .postL a2 ⟨x1, x2, x3, x4, x5⟩ k1) := by
    refine ⟨fun h => ?_, HB.out⟩
    obtain ⟨g1, g2, g3⟩ := HFR.out h
    have := hN1 h
    dsimp only at this
    rw [this] at g2 g3
    exact ⟨g1, g2, g3⟩
  clear hS1 hF1 hK1 hN1 rr C1 HB HFR
  dsimp only at *
  go_wp2_with fail
  go_loopg [12] (f + 1) (fun kx s3 wr => ∃ (fk : Nat) (sk : Sd) (u : Value) (y1 y2 y3 : Nat) (y4 : ByteArray) (y5 : Nat) (k : Fo) (A : Option Addr) (c : Nat), u = s3 ∧ fk ≤ kx ∧ fk ≤ f ∧ Hid (InvL X P r p fk .postL sk ⟨y1, y2, y3, y4, y5⟩ k) ∧ Hid (LS X w wr sk [(w1.heap.size, 25, ncc ⟨y1, y2, y3, y4, y5⟩ A k.len c), (w.heap.size, 25, zcc)] [(k, A, c)] (.slice none 0 0) .nil))
  case atStart => exact ⟨f, a2, _, x1, x2, x3, x4, x5, k1, A1, c1, rfl, by omega, by omega, INV0.out, L1.out⟩
  case round =>
    obtain ⟨fk, sk, u, y1, y2, y3, y4, y5, k, A, c, rfl, hkx, hfk, HG, LK⟩ := hrel
    clear INV0 L1 L0
    cases q19 : tk X sk sDot
    · have CT := Lib.hid (take_no X sk ⟨#[46]⟩ _ LK.out.st (by decide) q19)
      have Q19 := Lib.hid (tk_bad q19)
      clear q19
      go_wp2_with fail
      refine CT.out.mono ?_
      rintro e wa ⟨rfl, hSa, hFa⟩
      have LA19 := Lib.hid (LK.out.step hSa hFa)
      clear hSa hFa CT
      cases q20 : tk X sk sParO
      · have CT := Lib.hid (take_no X sk ⟨#[40]⟩ _ LA19.out.st (by decide) q20)
        have Q20 := Lib.hid (tk_bad q20)
        clear q20
        go_wp2_with fail
        refine CT.out.mono ?_
        rintro e wb ⟨rfl, hSa, hFa⟩
        have LA20 := Lib.hid (LA19.out.step hSa hFa)
        clear hSa hFa CT
        have HFIN : Hid (sk.2 < 0 → r = (.one ⟨y1, y2, y3, y4, y5⟩ k, sk)) := fun h => by
          have := postL_end (HG.out.1 h).2.2 (Q19.out.resolve_left (by omega)) (Q20.out.resolve_left (by omega))
          rw [this]
        have HBAD := Lib.hid HG.out.2
        have m1 := (LA20.out.row 1 rfl).cell
        have m2 := (LA20.out.row 1 rfl).thaw
        have n1 := (LA20.out.row 0 rfl).cell
        have LC := Lib.hid (LA20.out.put6 1 rfl rfl (.int .i64 y1) (.int .i64 y2) (.int .i64 y3) (.string y4) (.int .i64 y5) (.slice A k.len c))
        clear HG Q19 Q20
        go_wp2
        refine bodyPost_ret ?_ rfl ⟨⟨y1, y2, y3, y4, y5⟩, k, A, c, rfl, (LC.out.kidP 0 rfl).new_ (fun g h => h.1), PSt.to LC.out.st (fun h => by rw [HFIN.out h]) HBAD.out, LC.out.fr, ?_⟩
        · simp [results, Tryz.results159, go_sem, m1]
        · intro hh
          by_cases h : sk.2 < 0
          · rw [HFIN.out h]
          · rw [HBAD.out (by omega)] at hh; exact absurd hh h
      · obtain ⟨hg, hm⟩ := tk_good q20
        obtain ⟨hP, hfr, hex⟩ := HG.out.1 hg
        obtain ⟨f', q, hf', hq, hcont⟩ := postL_call hex hg hm
        have CT := Lib.hid (take_yes X sk ⟨#[40]⟩ _ LA19.out.st (by decide) q20)
        obtain ⟨rl, hrl⟩ : ∃ rl : Fo × Sd, rl = (q.1, wantM X.l q.2.2 q.2.1 sParS) := ⟨_, rfl⟩
        have hcont' : exM X.l f' (.postL (.one ⟨20, (Fo.one ⟨y1, y2, y3, y4, y5⟩ k).from_, rl.2.1, e0, 0⟩ ((Fo.one ⟨y1, y2, y3, y4, y5⟩ k).app rl.1))) rl.2.2 rl.2.1 = some r := by rw [hrl]; exact hcont
        have CL : Hid (∀ w', PSt X w' (sk.1 + 1, sk.2) → Calls Tryz.prog 119 #[X.p, .string ⟨#[41]⟩, .func (.func 136) #[X.p] #[]] w' (NodesQ X (f' + 1) w' rl)) := fun w' h => list_q X P (fun f => exM X.l f .expr) ⟨#[41]⟩ f' (by omega) (by decide) (by decide) 136 #[X.p] #[] (fun _ => True) (fun _ _ _ _ => trivial) (fun w => enter136 _ w) (fun f'' hf'' s w r _ h1 h2 hS => HI.out hP f'' (by omega) s w r h1 h2 hS) (sk.1 + 1, sk.2) w' rl trivial (fun _ => ⟨hP, q, hq, hrl⟩) (fun h => absurd h (by dsimp only; omega)) h
        have HCONT := Lib.hid hcont'
        have HP := Lib.hid hP
        have HFR := Lib.hid hfr
        have HF := Lib.hid (show f' + 1 = fk from hf'.symm)
        have HFB := Lib.hid (show f' + 1 ≤ 1000001 by omega)
        clear HG hcont hcont' hf' q20 hm hg hP hex hfr hq hrl Q19
        obtain ⟨cf, c2⟩ := rl
        dsimp only at *
        go_wp2_with fail
        refine CT.out.mono ?_
        rintro e w2 ⟨rfl, hS2, hF2⟩
        have L2 := Lib.hid (LA19.out.step hS2 hF2)
        clear hS2 hF2
        go_wp2_with fail
        have L2d : Hid (LS X w w2.drew (sk.1 + 1, sk.2) _ _ _ _) := L2.out.other ((Below.refl _ _).drew)
        have LAd : Hid (LS X w (w2.alloc (.cells (ncc ⟨y1, y2, y3, y4, y5⟩ A k.len c) 25)).drew (sk.1 + 1, sk.2) _ _ _ _) := (L2.out.lit (k := .one ⟨y1, y2, y3, y4, y5⟩ k) (cs := ncc ⟨y1, y2, y3, y4, y5⟩ A k.len c) (FC.one (L2.out.kidP 0 rfl)) w2.heap.size rfl (show 1 ≤ maxLen by decide)).other ((Below.refl _ _).drew)
        have HS0 := (L2d.out.row 0 rfl).cell
        go_region_law (first
          | (refine step_append_kid (by rfl) (.tmp 28) (.tmp 32) (by rfl) L4.out (by rfl) (by rfl) hnil (Nat.le_trans hlen HFB.out) ?_; intro A6 c6 w6 LL5; have L5 := Lib.hid LL5.toKid)
          | (go_simp; go_at_call 119; refine (CL.out _ ?_).mono ?_; (first | (with_reducible exact L2d.out.st; have mB : True := trivial) | (with_reducible exact LAd.out.st; have mA : True := trivial)); intro e w3 hq3; obtain ⟨AL, KL, cL, rfl, hKV, hS3, hF3, hN3, hlen, hnil⟩ := NodesQ.kv hq3; (first | (have _ := mB; have L3 := Lib.hid (L2d.out.kid hS3 hF3 hKV); have HSa := (L3.out.row 0 rfl).cell; have L4 := Lib.hid (L3.out.lit (k := .one ⟨y1, y2, y3, y4, y5⟩ k) (cs := ncc ⟨y1, y2, y3, y4, y5⟩ A k.len c) (FC.one (L3.out.kidP 1 rfl)) w3.heap.size rfl (show 1 ≤ maxLen by decide))) | (have _ := mA; have L4 := Lib.hid (LAd.out.kid hS3 hF3 hKV))); go_wp2_with fail)
          | (go_simp; go_at_call 67; refine (node_any X c2 20 p A6 _ c6 _ L5.out.st).mono ?_; rintro e w7 ⟨rfl, hb7⟩; have L6 := Lib.hid (L5.out.other hb7); have u1 := (L6.out.row 0 rfl).cell; have u2 := (L6.out.row 0 rfl).thaw; have L7 := Lib.hid (L6.out.put6 0 rfl rfl (.int .i64 20) (.int .i64 p) (.int .i64 (pos X c2)) (.string e0) (.int .i64 0) (.slice A6 ((Fo.one ⟨y1, y2, y3, y4, y5⟩ k).app KL).len c6)); go_wp2_with fail)
          | fail)
        all_goals
          have hf'' := HF.out
          have INV : Hid (InvL X P r p f' .postL c2 ⟨20, p, pos X c2, e0, 0⟩ ((Fo.one ⟨y1, y2, y3, y4, y5⟩ k).app KL)) := by
            refine ⟨fun h => ⟨HP.out, rfl, ?_⟩, fun h => exM_bad _ _ _ _ _ h HCONT.out⟩
            have h1 := HCONT.out
            rw [hN3 h] at h1
            rw [pos_good h, ← HFR.out]
            exact h1
          have L8 := Lib.hid L7.out.K1
          clear HCONT HP HFR HF u1 L2 L2d L4 L5 L6 L7 LAd
          go_wp2_with fail
          go_roundg f'
          case measure => omega
          case rel => exact ⟨f', c2, _, 20, p, pos X c2, e0, 0, (Fo.one ⟨y1, y2, y3, y4, y5⟩ k).app KL, A6, c6, rfl, by omega, by omega, INV.out, L8.out⟩
    · obtain ⟨hg, hm⟩ := tk_good q19
      obtain ⟨hP, hfr, hex⟩ := HG.out.1 hg
      obtain ⟨f', hf', hcont⟩ := postL_dot hex hg hm
      have CT := Lib.hid (take_yes X sk ⟨#[46]⟩ _ LK.out.st (by decide) q19)
      obtain ⟨s1, hs1⟩ : ∃ s1 : Sd, s1 = (sk.1 + 1, sk.2) := ⟨_, rfl⟩
      rw [← hs1] at CT
      have C63 : Hid (∀ w', PSt X w' s1 → Calls Tryz.prog 99 #[X.p] w' fun e w'' => e = .returned (.int .i64 (wat X s1 : Int)) ∧ StepP X w' (wordS X s1) w'') := fun w' h => word_any X s1 w' h
      have HWL : Hid (∀ w', PSt X w' s1 → wat X s1 < X.l.length) := fun w' h => wat_lt h
      have hcont' : ((wordS X s1).2 < 0 → exM X.l f' (.postL (.one ⟨19, p, (wordS X s1).1, textAt X.l (wat X s1), wat X s1⟩ (.one ⟨y1, y2, y3, y4, y5⟩ k))) (wordS X s1).2 (wordS X s1).1 = some r) ∧ (0 ≤ (wordS X s1).2 → r.2.2 = (wordS X s1).2) := by
        have ew : (wordM X.l sk.2 ⟨19, (Fo.one ⟨y1, y2, y3, y4, y5⟩ k).from_, 0, e0, 0⟩ (sk.1 + 1)).2 = wordS X s1 := by
          rw [hs1]; exact wordM_snd _ _ _ _
        rw [ew] at hcont
        refine ⟨fun hy => ?_, fun hy => exM_bad _ _ _ _ _ hy hcont⟩
        obtain ⟨g1, g2, g3, g4⟩ := wordS_good hy
        have g5 := g4 ⟨19, (Fo.one ⟨y1, y2, y3, y4, y5⟩ k).from_, 0, e0, 0⟩
        rw [hs1] at g5
        rw [g5] at hcont
        rw [g2, hs1, ← hfr]
        rw [hs1] at hcont
        exact hcont
      have HCONT := Lib.hid hcont'
      have HP := Lib.hid hP
      have HF := Lib.hid hf'
      clear HG hcont hcont' hf' q19 hm hg hP hex hfr hs1
      generalize wordS X s1 = c2 at *
      generalize wat X s1 = q at *
      go_wp2_with fail
      refine CT.out.mono ?_
      rintro e w2 ⟨rfl, hS2, hF2⟩
      have L2 := Lib.hid (LK.out.step hS2 hF2)
      have hwl := HWL.out _ hS2
      clear hS2 hF2
      go_wp2_with fail
      have L2d : Hid (LS X w w2.drew s1 _ _ _ _) := L2.out.other ((Below.refl _ _).drew)
      have LAd : Hid (LS X w (w2.alloc (.cells (ncc ⟨y1, y2, y3, y4, y5⟩ A k.len c) 25)).drew s1 _ _ _ _) := (L2.out.slice w2.heap.size rfl (k := .one ⟨y1, y2, y3, y4, y5⟩ k) (cs := ncc ⟨y1, y2, y3, y4, y5⟩ A k.len c) (FC.one (L2.out.kidP 0 rfl))).other ((Below.refl _ _).drew)
      have HS0 := (L2d.out.row 0 rfl).cell
      go_region_with (first
        | (go_at_call 99; refine (C63.out _ ?_).mono ?_; (first | (with_reducible exact L2d.out.st; have mB : True := trivial) | (with_reducible exact LAd.out.st; have mA : True := trivial)); rintro e w3 ⟨rfl, hS3, hF3⟩; (first | (have _ := mB; have L3 := Lib.hid (L2d.out.step hS3 hF3); have HSa := (L3.out.row 0 rfl).cell; have L4 := Lib.hid (L3.out.slice w3.heap.size rfl (k := .one ⟨y1, y2, y3, y4, y5⟩ k) (cs := ncc ⟨y1, y2, y3, y4, y5⟩ A k.len c) (FC.one (L3.out.kidP 0 rfl))); skip) | (have _ := mA; have L4 := Lib.hid (LAd.out.step hS3 hF3))))
        | (go_at_call 98; have _ := mB; refine (named_any X c2 19 p q (some ⟨w3.heap.size, 0, none⟩) 1 1 _ L4.out.st hwl).mono ?_; rintro e w5 ⟨rfl, hb5⟩; have L5 := Lib.hid (L4.out.other hb5); have u1 := (L5.out.row 0 rfl).cell; have u2 := (L5.out.row 0 rfl).thaw; have L6 := Lib.hid (L5.out.put6 0 rfl rfl (.int .i64 19) (.int .i64 p) (.int .i64 (pos X c2)) (.string (textAt X.l q)) (.int .i64 q) (.slice (some ⟨w3.heap.size, 0, none⟩) 1 1)))
        | (go_at_call 98; have _ := mA; refine (named_any X c2 19 p q (some ⟨w2.heap.size, 0, none⟩) 1 1 _ L4.out.st hwl).mono ?_; rintro e w5 ⟨rfl, hb5⟩; have L5 := Lib.hid (L4.out.other hb5); have u1 := (L5.out.row 0 rfl).cell; have u2 := (L5.out.row 0 rfl).thaw; have L6 := Lib.hid (L5.out.put6 0 rfl rfl (.int .i64 19) (.int .i64 p) (.int .i64 (pos X c2)) (.string (textAt X.l q)) (.int .i64 q) (.slice (some ⟨w2.heap.size, 0, none⟩) 1 1)))
        | fail)
      all_goals
        have hf'' := HF.out
        have INV : Hid (InvL X P r p f' .postL c2 ⟨19, p, pos X c2, textAt X.l q, q⟩ (.one ⟨y1, y2, y3, y4, y5⟩ k)) := by
          refine ⟨fun h => ⟨HP.out, rfl, ?_⟩, HCONT.out.2⟩
          rw [pos_good h]
          exact HCONT.out.1 h
        have L7 := Lib.hid L6.out.K1
        clear HCONT HP HF u1 L2 L2d L4 L5 L6 LAd
        go_wp2_with fail
        go_roundg f'
        case measure => omega
        case rel => exact ⟨f', c2, _, 19, p, pos X c2, textAt X.l q, q, .one ⟨y1, y2, y3, y4, y5⟩ k, _, 1, rfl, by omega, by omega, INV.out, L7.out⟩
end Pg
end Go.Proofs.YtiabkkdeonepgaaGreatDoor
namespace Go.Proofs.YtiabkkdeonepgaaGreatDoor
open Go.RowKit
namespace Pg
open Ps
def RuleA (X : Cx) (P : Prop) (M : Sd → Res) (fn : Nat) (args : Array Value) : Prop := ∀ (s : Sd) (w : World) (r : Fo × Sd), (s.2 < 0 → P ∧ M s = some r) → (0 ≤ s.2 → r.2.2 = s.2) → PSt X w s → Calls Tryz.prog fn args w (NodeQ X w r)
def closeM (l : List Tok) (f kd fr : Nat) (s : Sd) : Res := (exM l f .expr s.2 s.1).bind fun v => some (.one ⟨kd, fr, (wantM l v.2.2 v.2.1 sSem).1, e0, 0⟩ v.1, wantM l v.2.2 v.2.1 sSem)
theorem close_pure {X : Cx} {P : Prop} {f kd fr : Nat} {s : Sd} {r : Fo × Sd} (h1 : s.2 < 0 → P ∧ closeM X.l f kd fr s = some r) (h2 : 0 ≤ s.2 → r.2.2 = s.2) :
    ∃ v : Fo × Sd, (s.2 < 0 → P ∧ exR X f .expr s = some v) ∧ (0 ≤ s.2 → v.2.2 = s.2) ∧ ((wantS X v.2 sSem).2 < 0 → r = (.one ⟨kd, fr, (wantS X v.2 sSem).1, e0, 0⟩ v.1, wantS X v.2 sSem)) ∧ (0 ≤ (wantS X v.2 sSem).2 → r.2.2 = (wantS X v.2 sSem).2) := by
  by_cases hs : 0 ≤ s.2
  · refine ⟨(.nil, s), fun h => absurd h (by omega), fun _ => rfl, fun h => ?_, fun _ => ?_⟩
    · dsimp only at h; rw [wantS_bad hs] at h; exact absurd h (by omega)
    · dsimp only; rw [wantS_bad hs]; exact h2 hs
  · obtain ⟨hP, h⟩ := h1 (by omega)
    unfold closeM at h
    obtain ⟨v, hv, h⟩ := Option.bind_eq_some_iff.1 h
    injection h with h
    exact ⟨v, fun _ => ⟨hP, hv⟩, fun h => absurd h hs, fun _ => h.symm, fun _ => by rw [← h]; rfl⟩
def otherM (l : List Tok) (f : Nat) (s : Sd) : Res := if s.2 < 0 ∧ isM l s.1 kElse = true then exM l f .block s.2 (s.1 + 1) else some (.zero, s)
set_option maxHeartbeats 4000000 in
theorem closed_q (X : Cx) (P : Prop) (f : Nat) (IE : RuleQ X P (exR X f .expr) 136) (kd fr : Nat) : RuleA X P (closeM X.l f kd fr) 138 #[X.p, .int .i64 kd, .int .i64 fr] := by
  intro s w r hr1 hr2 hS
  have L0 := Lib.hid ((LS.start hS).alloc w.heap.size rfl 25 zcc)
  have hrb := hS.lt
  have hl := hS.len
  obtain ⟨v, hv1, hv2, hrt, hbt⟩ := close_pure hr1 hr2
  obtain ⟨s3, hs3⟩ : ∃ s3, s3 = wantS X v.2 sSem := ⟨_, rfl⟩
  rw [← hs3] at hrt hbt
  have HS3 := Lib.hid hs3
  have HR2 := Lib.hid hrt
  have HB := Lib.hid hbt
  have C1 : Hid (∀ w', PSt X w' s → Calls Tryz.prog 136 #[X.p] w' (NodeQ X w' v)) := fun w' h => IE s w' v hv1 hv2 h
  clear hr1 hr2 hv1 hv2 hrt hbt hs3 hS IE
  go_enter Tryz.func138, Tryz.ntmps138
  go_wp2_with fail
  refine (C1.out _ L0.out.st).mono ?_
  rintro e wb ⟨h1, k1, A1, c1, rfl, hKw, hSw, hFw, hN1⟩
  obtain ⟨x11, x12, x13, x14, x15⟩ := h1
  have LB := Lib.hid (L0.out.kid hSw hFw hKw)
  have HN1 := Lib.hid hN1
  clear hSw hFw hKw hN1
  have LC := Lib.hid (LB.out.alloc wb.heap.size rfl 25 (ncc ⟨x11, x12, x13, x14, x15⟩ A1 k1.len c1))
  clear C1
  have CW := Lib.hid (want_any X v.2 ⟨#[59]⟩ _ LC.out.st (by decide))
  go_wp2_with fail
  refine CW.out.mono ?_
  rintro e wd ⟨rfl, hSw, hFw⟩
  have LD0 := Lib.hid (LC.out.step hSw hFw)
  clear hSw hFw CW
  have LD : Hid (LS X w wd s3 [(wb.heap.size, 25, ncc ⟨x11, x12, x13, x14, x15⟩ A1 k1.len c1), (w.heap.size, 25, zcc)] [(k1, A1, c1)] (.slice none 0 0) .nil) := by unfold Hid; rw [HS3.out]; exact LD0.out
  have n1 := (LD.out.row 0 rfl).cell
  have LE := Lib.hid (LD.out.slice wd.heap.size rfl (k := .one ⟨x11, x12, x13, x14, x15⟩ k1) (cs := ncc ⟨x11, x12, x13, x14, x15⟩ A1 k1.len c1) (FC.one (LD.out.kidP 0 rfl)))
  have HR : Hid (s3.2 < 0 → r = (.one ⟨kd, fr, pos X s3, e0, 0⟩ (.one ⟨x11, x12, x13, x14, x15⟩ k1), s3)) := fun h => by
    have h1 : (wantS X v.2 sSem).2 < 0 := by rw [← HS3.out]; exact h
    rw [HR2.out h, HN1.out (wantS_good h1).1, pos_good h]
  clear LD0 HR2 HN1 HS3
  go_wp2_with fail
  refine (node_any X s3 kd fr (some ⟨wd.heap.size, 0, none⟩) 1 1 _ LE.out.st).mono ?_
  rintro e wf ⟨rfl, hbw⟩
  have LFb := Lib.hid (LE.out.other hbw)
  have u1 := (LFb.out.row 1 rfl).cell
  have u2 := (LFb.out.row 1 rfl).thaw
  have LF := Lib.hid (LFb.out.put6 1 rfl rfl (.int .i64 kd) (.int .i64 fr) (.int .i64 (pos X s3)) (.string e0) (.int .i64 0) (.slice (some ⟨wd.heap.size, 0, none⟩) 1 1))
  clear hbw
  go_wp2
  refine bodyPost_ret ?_ rfl ⟨⟨kd, fr, pos X s3, e0, 0⟩, (.one ⟨x11, x12, x13, x14, x15⟩ k1), some ⟨wd.heap.size, 0, none⟩, 1, rfl, (LF.out.kidP 0 rfl).new_ (fun g h => h.1), PSt.to LF.out.st (fun h => by rw [HR.out h]) HB.out, LF.out.fr, ?_⟩
  · simp [results, Tryz.results138, go_sem, u1]
    try first | rfl | exact ⟨rfl, rfl⟩
  · intro hh
    rw [HR.out (by by_cases h : (s3 : Sd).2 < 0; exact h; rw [HB.out (by omega)] at hh; exact absurd hh h)]
set_option maxHeartbeats 4000000 in
theorem other_q (X : Cx) (P : Prop) (f : Nat) (I : RuleQ X P (exR X f .block) 102) : RuleQ X P (otherM X.l f) 137 := by
  intro s w r hr1 hr2 hS
  have L0 := Lib.hid ((LS.start hS).alloc w.heap.size rfl 25 zcc)
  have hrb := hS.lt
  have hl := hS.len
  cases q1 : tk X s kElse
  · have HR : Hid (s.2 < 0 → r = (.zero, s)) := fun h => by
      have h3 := (hr1 h).2
      unfold otherM at h3
      rw [if_neg (by rintro ⟨_, hm⟩; rw [(tk_bad q1).resolve_left (by omega)] at hm; cases hm)] at h3
      injection h3 with h3; exact h3.symm
    have HB := Lib.hid hr2
    clear hr1 hr2 I hS
    go_enter Tryz.func137, Tryz.ntmps137
    have CT := Lib.hid (take_no X s ⟨#[101, 108, 115, 101]⟩ _ L0.out.st (by decide) q1)
    go_wp2_with fail
    refine CT.out.mono ?_
    rintro e w1 ⟨rfl, hSw, hFw⟩
    have L1 := Lib.hid (L0.out.step hSw hFw)
    clear hSw hFw CT
    clear q1
    have u1 := (L1.out.row 0 rfl).cell
    have u2 := (L1.out.row 0 rfl).thaw
    have LY := Lib.hid (L1.out.put6 0 rfl rfl (.int .i64 0) (.int .i64 0) (.int .i64 0) (.string ⟨#[]⟩) (.int .i64 0) (.slice none 0 0))
    go_wp2
    refine bodyPost_ret ?_ rfl ⟨⟨0, 0, 0, e0, 0⟩, .nil, none, 0, rfl, KV.nil _ _ _ _, PSt.to LY.out.st (fun h => by rw [HR.out h]) HB.out, LY.out.fr, ?_⟩
    · simp [results, Tryz.results137, go_sem, u1]
      try first | rfl | exact ⟨rfl, rfl⟩
    · intro hh
      rw [HR.out (by by_cases h : (s : Sd).2 < 0; exact h; rw [HB.out (by omega)] at hh; exact absurd hh h)]
      rfl
  · obtain ⟨hg, hm⟩ := tk_good q1
    have hP := (hr1 hg).1
    have h3 := (hr1 hg).2
    unfold otherM at h3
    rw [if_pos ⟨hg, hm⟩] at h3
    have CT2 : Hid (∀ w', PSt X w' (s.1 + 1, s.2) → Calls Tryz.prog 102 #[X.p] w' (NodeQ X w' r)) := fun w' h => I (s.1 + 1, s.2) w' r (fun _ => ⟨hP, h3⟩) (fun h => absurd h (by dsimp only; omega)) h
    clear hr1 hr2 I hS hg hm hP h3
    go_enter Tryz.func137, Tryz.ntmps137
    have CT := Lib.hid (take_yes X s ⟨#[101, 108, 115, 101]⟩ _ L0.out.st (by decide) q1)
    go_wp2_with fail
    refine CT.out.mono ?_
    rintro e w1 ⟨rfl, hSw, hFw⟩
    have L1 := Lib.hid (L0.out.step hSw hFw)
    clear hSw hFw CT
    clear q1
    go_wp2_with fail
    refine (CT2.out _ L1.out.st).mono ?_
    rintro e w2 ⟨h1, k1, A1, c1, rfl, hKw, hSw, hFw, hN1⟩
    obtain ⟨x11, x12, x13, x14, x15⟩ := h1
    have L2 := Lib.hid (L1.out.kid hSw hFw hKw)
    have HN1 := Lib.hid hN1
    clear hSw hFw hKw hN1
    have u1 := (L2.out.row 0 rfl).cell
    have u2 := (L2.out.row 0 rfl).thaw
    have LY := Lib.hid (L2.out.put6 0 rfl rfl (.int .i64 x11) (.int .i64 x12) (.int .i64 x13) (.string x14) (.int .i64 x15) (.slice A1 k1.len c1))
    clear CT2
    go_wp2
    refine bodyPost_ret ?_ rfl ⟨⟨x11, x12, x13, x14, x15⟩, k1, A1, c1, rfl, (LY.out.kidP 0 rfl).new_ (fun g h => h.1), LY.out.st, LY.out.fr, HN1.out⟩
    simp [results, Tryz.results137, go_sem, u1]
    try first | rfl | exact ⟨rfl, rfl⟩
set_option maxHeartbeats 4000000 in
theorem set_q (X : Cx) (P : Prop) (f : Nat) (IE : RuleQ X P (exR X f .expr) 136) (fr : Nat) (s : Sd) (w : World) (r v : Fo × Sd) (hP : P) (hs : s.2 < 0) (hk : kindAt X.l s.1 = 1) (hq : isM X.l (s.1 + 1) sEq = true)
    (hv : exM X.l f .expr s.2 (s.1 + 2) = some v) (hr : r = (.one ⟨8, fr, (wantS X v.2 sSem).1, textAt X.l s.1, s.1⟩ v.1, wantS X v.2 sSem)) (hS : PSt X w s) : Calls Tryz.prog 134 #[X.p, .int .i64 fr] w (NodeQ X w r) := by
  have L0 := Lib.hid ((LS.start hS).alloc w.heap.size rfl 25 zcc)
  have hrb := hS.lt
  have hl := hS.len
  obtain ⟨s3, hs3⟩ : ∃ s3, s3 = wantS X v.2 sSem := ⟨_, rfl⟩
  rw [← hs3] at hr
  have HS3 := Lib.hid hs3
  have HR2 := Lib.hid hr
  have hhas : hasK X s 1 = true := by unfold hasK; rw [decide_eq_true hs, decide_eq_true hk]; rfl
  have hwd : wordS X s = (s.1 + 1, s.2) := by rw [wordS_eq, if_pos hhas]
  have hwa : wat X s = s.1 := by unfold wat; rw [if_pos hhas]
  have hwt : wantS X (s.1 + 1, s.2) sEq = (s.1 + 2, s.2) := by
    have : tk X (s.1 + 1, s.2) sEq = true := by unfold tk; dsimp only; rw [decide_eq_true hs, hq]; rfl
    rw [wantS_eq, if_pos this]
  have hwl : s.1 < X.l.length := hS.ib hs
  obtain ⟨q, hqq⟩ : ∃ q, q = s.1 := ⟨_, rfl⟩
  have CWW := word_any X s _ L0.out.st
  rw [hwa, ← hqq, hwd] at CWW
  have CWW := Lib.hid CWW
  have CW := Lib.hid (fun w' h => want_any X (s.1 + 1, s.2) ⟨#[61]⟩ w' h (by decide))
  have C1 : Hid (∀ w', PSt X w' (s.1 + 2, s.2) → Calls Tryz.prog 136 #[X.p] w' (NodeQ X w' v)) := fun w' h => IE (s.1 + 2, s.2) w' v (fun _ => ⟨hP, hv⟩) (fun h => absurd h (by dsimp only; omega)) h
  rw [← hqq] at hwl HR2
  have HWT := Lib.hid hwt
  clear hr hs3 hS IE hP hs hk hq hv hhas hwd hwa hwt hqq
  go_enter Tryz.func134, Tryz.ntmps134
  go_wp2_with fail
  refine CWW.out.mono ?_
  rintro e w1 ⟨rfl, hSw, hFw⟩
  have L1 := Lib.hid (L0.out.step hSw hFw)
  clear hSw hFw CWW
  go_wp2_with fail
  refine (CW.out _ L1.out.st).mono ?_
  rintro e w2 ⟨rfl, hSw, hFw⟩
  have L2a := Lib.hid (L1.out.step hSw hFw)
  have L2 : Hid (LS X w w2 (s.1 + 2, s.2) [(w.heap.size, 25, zcc)] [] (.slice none 0 0) .nil) := by unfold Hid; rw [← HWT.out]; exact L2a.out
  clear hSw hFw CW L2a
  go_wp2_with fail
  refine (C1.out _ L2.out.st).mono ?_
  rintro e wb ⟨h1, k1, A1, c1, rfl, hKw, hSw, hFw, hN1⟩
  obtain ⟨x11, x12, x13, x14, x15⟩ := h1
  have LB := Lib.hid (L2.out.kid hSw hFw hKw)
  have HN1 := Lib.hid hN1
  clear hSw hFw hKw hN1
  have LC := Lib.hid (LB.out.alloc wb.heap.size rfl 25 (ncc ⟨x11, x12, x13, x14, x15⟩ A1 k1.len c1))
  clear C1
  have CW := Lib.hid (want_any X v.2 ⟨#[59]⟩ _ LC.out.st (by decide))
  go_wp2_with fail
  refine CW.out.mono ?_
  rintro e wd ⟨rfl, hSw, hFw⟩
  have LD0 := Lib.hid (LC.out.step hSw hFw)
  clear hSw hFw CW
  have LD : Hid (LS X w wd s3 [(wb.heap.size, 25, ncc ⟨x11, x12, x13, x14, x15⟩ A1 k1.len c1), (w.heap.size, 25, zcc)] [(k1, A1, c1)] (.slice none 0 0) .nil) := by unfold Hid; rw [HS3.out]; exact LD0.out
  have n1 := (LD.out.row 0 rfl).cell
  have LE := Lib.hid (LD.out.slice wd.heap.size rfl (k := .one ⟨x11, x12, x13, x14, x15⟩ k1) (cs := ncc ⟨x11, x12, x13, x14, x15⟩ A1 k1.len c1) (FC.one (LD.out.kidP 0 rfl)))
  have HR : Hid (s3.2 < 0 → r = (.one ⟨8, fr, pos X s3, textAt X.l q, q⟩ (.one ⟨x11, x12, x13, x14, x15⟩ k1), s3)) := fun h => by
    have h1 : (wantS X v.2 sSem).2 < 0 := by rw [← HS3.out]; exact h
    rw [HR2.out, HN1.out (wantS_good h1).1, pos_good h]
  have HB : Hid (0 ≤ s3.2 → r.2.2 = s3.2) := fun h => by rw [HR2.out]
  clear LD0 HR2 HN1 HS3 HWT
  go_wp2_with fail
  refine (named_any X s3 8 fr q (some ⟨wd.heap.size, 0, none⟩) 1 1 _ LE.out.st hwl).mono ?_
  rintro e wf ⟨rfl, hbw⟩
  have LFb := Lib.hid (LE.out.other hbw)
  have u1 := (LFb.out.row 1 rfl).cell
  have u2 := (LFb.out.row 1 rfl).thaw
  have LF := Lib.hid (LFb.out.put6 1 rfl rfl (.int .i64 8) (.int .i64 fr) (.int .i64 (pos X s3)) (.string (textAt X.l q)) (.int .i64 q) (.slice (some ⟨wd.heap.size, 0, none⟩) 1 1))
  clear hbw
  go_wp2
  refine bodyPost_ret ?_ rfl ⟨⟨8, fr, pos X s3, textAt X.l q, q⟩, (.one ⟨x11, x12, x13, x14, x15⟩ k1), some ⟨wd.heap.size, 0, none⟩, 1, rfl, (LF.out.kidP 0 rfl).new_ (fun g h => h.1), PSt.to LF.out.st (fun h => by rw [HR.out h]) HB.out, LF.out.fr, ?_⟩
  · simp [results, Tryz.results134, go_sem, u1]
    try first | rfl | exact ⟨rfl, rfl⟩
  · intro hh
    rw [HR.out (by by_cases h : (s3 : Sd).2 < 0; exact h; rw [HB.out (by omega)] at hh; exact absurd hh h)]
set_option maxHeartbeats 4000000 in
theorem let_q (X : Cx) (P : Prop) (f : Nat) (IE : RuleQ X P (exR X f .expr) 136) (IW : RuleQ X P (wrtR X f) 101) (fr : Nat) (s : Sd) (w : World) (r t v : Fo × Sd) (hP : P)
    (ht : typedM X.l f (wordS X s).2 (wordS X s).1 = some t) (hv : exM X.l f .expr (wantS X t.2 sEq).2 (wantS X t.2 sEq).1 = some v)
    (hr : r = (.one { (wordM X.l s.2 ⟨7, fr, 0, e0, 0⟩ s.1).1 with til := (wantS X v.2 sSem).1 } (t.1.app v.1), wantS X v.2 sSem)) (hS : PSt X w s) : Calls Tryz.prog 135 #[X.p, .int .i64 fr] w (NodeQ X w r) := by
  have L0 := Lib.hid ((LS.start hS).alloc w.heap.size rfl 25 zcc)
  have hrb := hS.lt
  have hl := hS.len
  have hwl := wat_lt hS
  obtain ⟨s3, hs3⟩ : ∃ s3, s3 = wantS X v.2 sSem := ⟨_, rfl⟩
  have hgg : s3.2 < 0 → v.2.2 < 0 ∧ t.2.2 < 0 ∧ r = (.one ⟨7, fr, s3.1, textAt X.l (wat X s), wat X s⟩ (t.1.app v.1), s3) := fun h => by
    rw [hs3] at h
    have g1 := (wantS_good h).1
    have g2 := exM_was hv g1
    have g3 := (wantS_good g2).1
    have g4 : (wordS X s).2 < 0 := by
      by_cases hh : 0 ≤ (wordS X s).2
      · have := typedM_bad hh ht; omega
      · omega
    obtain ⟨y1, y2, y3, y4⟩ := wordS_good g4
    refine ⟨g1, g3, ?_⟩
    rw [hr, y4, y2, hs3]
  have hB : 0 ≤ s3.2 → r.2.2 = s3.2 := fun h => by rw [hr, hs3]
  have HS3 := Lib.hid hs3
  have HGG := Lib.hid hgg
  have HB := Lib.hid hB
  obtain ⟨s2, hs2⟩ : ∃ s2, s2 = wantS X t.2 sEq := ⟨_, rfl⟩
  rw [← hs2] at hv
  have HS2 := Lib.hid hs2
  have CWW := Lib.hid (word_any X s _ L0.out.st)
  have CT : Hid (∀ w', PSt X w' (wordS X s) → Calls Tryz.prog 101 #[X.p] w' (NodeQ X w' t)) := fun w' h => IW (wordS X s) w' t (fun _ => ⟨hP, ht⟩) (fun h => typedM_bad h ht) h
  have C2 : Hid (∀ w', PSt X w' s2 → Calls Tryz.prog 136 #[X.p] w' (NodeQ X w' v)) := fun w' h => IE s2 w' v (fun _ => ⟨hP, hv⟩) (fun h => exM_bad _ _ _ _ _ h hv) h
  clear hr hs3 hS IE IW hP ht hv hgg hB hs2
  generalize wat X s = q at *
  generalize wordS X s = sw at *
  go_enter Tryz.func135, Tryz.ntmps135
  go_wp2_with fail
  refine CWW.out.mono ?_
  rintro e w1 ⟨rfl, hSw, hFw⟩
  have L1 := Lib.hid (L0.out.step hSw hFw)
  clear hSw hFw CWW
  go_wp2_with fail
  refine (CT.out _ L1.out.st).mono ?_
  rintro e wb ⟨h1, k1, A1, c1, rfl, hKw, hSw, hFw, hN1⟩
  obtain ⟨x11, x12, x13, x14, x15⟩ := h1
  have LB := Lib.hid (L1.out.kid hSw hFw hKw)
  have HN1 := Lib.hid hN1
  clear hSw hFw hKw hN1
  have LC := Lib.hid (LB.out.alloc wb.heap.size rfl 25 (ncc ⟨x11, x12, x13, x14, x15⟩ A1 k1.len c1))
  clear CT
  have CW := Lib.hid (want_any X t.2 ⟨#[61]⟩ _ LC.out.st (by decide))
  go_wp2_with fail
  refine CW.out.mono ?_
  rintro e wd ⟨rfl, hSw, hFw⟩
  have LD0 := Lib.hid (LC.out.step hSw hFw)
  clear hSw hFw CW
  have LD : Hid (LS X w wd s2 [(wb.heap.size, 25, ncc ⟨x11, x12, x13, x14, x15⟩ A1 k1.len c1), (w.heap.size, 25, zcc)] [(k1, A1, c1)] (.slice none 0 0) .nil) := by unfold Hid; rw [HS2.out]; exact LD0.out
  clear LD0
  go_wp2_with fail
  refine (C2.out _ LD.out.st).mono ?_
  rintro e we ⟨h2, k2, A2, c2, rfl, hKw, hSw, hFw, hN2⟩
  obtain ⟨x21, x22, x23, x24, x25⟩ := h2
  have LE := Lib.hid (LD.out.kid hSw hFw hKw)
  have HN2 := Lib.hid hN2
  clear hSw hFw hKw hN2
  have LF := Lib.hid (LE.out.alloc we.heap.size rfl 25 (ncc ⟨x21, x22, x23, x24, x25⟩ A2 k2.len c2))
  clear C2
  have CW := Lib.hid (want_any X v.2 ⟨#[59]⟩ _ LF.out.st (by decide))
  go_wp2_with fail
  refine CW.out.mono ?_
  rintro e wg ⟨rfl, hSw, hFw⟩
  have LG0 := Lib.hid (LF.out.step hSw hFw)
  clear hSw hFw CW
  have LG : Hid (LS X w wg s3 [(we.heap.size, 25, ncc ⟨x21, x22, x23, x24, x25⟩ A2 k2.len c2), (wb.heap.size, 25, ncc ⟨x11, x12, x13, x14, x15⟩ A1 k1.len c1), (w.heap.size, 25, zcc)] [(k2, A2, c2), (k1, A1, c1)] (.slice none 0 0) .nil) := by unfold Hid; rw [HS3.out]; exact LG0.out
  have n1 := (LG.out.row 0 rfl).cell
  have n2 := (LG.out.row 1 rfl).cell
  have LH := Lib.hid (LG.out.slice wg.heap.size rfl (KV.two (h1 := ⟨x11, x12, x13, x14, x15⟩) (h2 := ⟨x21, x22, x23, x24, x25⟩) (LG.out.kidP 1 rfl) (LG.out.kidP 0 rfl)))
  have HR : Hid (s3.2 < 0 → r = (.one ⟨7, fr, pos X s3, textAt X.l q, q⟩ ((Fo.one ⟨x11, x12, x13, x14, x15⟩ k1).app (.one ⟨x21, x22, x23, x24, x25⟩ k2)), s3)) := fun h => by
    obtain ⟨g1, g2, g3⟩ := HGG.out h
    rw [g3, HN1.out g2, HN2.out g1, pos_good h]
  clear LG0 HGG HN1 HN2 HS3 HS2
  go_wp2_with fail
  refine (named_any X s3 7 fr q (some ⟨wg.heap.size, 0, none⟩) 2 2 _ LH.out.st hwl).mono ?_
  rintro e wf ⟨rfl, hbw⟩
  have LIb := Lib.hid (LH.out.other hbw)
  have u1 := (LIb.out.row 2 rfl).cell
  have u2 := (LIb.out.row 2 rfl).thaw
  have LI := Lib.hid (LIb.out.put6 2 rfl rfl (.int .i64 7) (.int .i64 fr) (.int .i64 (pos X s3)) (.string (textAt X.l q)) (.int .i64 q) (.slice (some ⟨wg.heap.size, 0, none⟩) 2 2))
  clear hbw
  go_wp2
  refine bodyPost_ret ?_ rfl ⟨⟨7, fr, pos X s3, textAt X.l q, q⟩, ((Fo.one ⟨x11, x12, x13, x14, x15⟩ k1).app (.one ⟨x21, x22, x23, x24, x25⟩ k2)), some ⟨wg.heap.size, 0, none⟩, 2, rfl, (LI.out.kidP 0 rfl).new_ (fun g h => h.1), PSt.to LI.out.st (fun h => by rw [HR.out h]) HB.out, LI.out.fr, ?_⟩
  · simp [results, Tryz.results135, go_sem, u1]
    try first | rfl | exact ⟨rfl, rfl⟩
  · intro hh
    rw [HR.out (by by_cases h : (s3 : Sd).2 < 0; exact h; rw [HB.out (by omega)] at hh; exact absurd hh h)]
end Pg
end Go.Proofs.YtiabkkdeonepgaaGreatDoor
namespace Go.Proofs.YtiabkkdeonepgaaGreatDoor
open Go.RowKit
namespace Pg
open Ps
section
variable {l : List Tok} {f : Nat} {b : Int} {i p : Nat} {r : Fo × Nat × Int}
theorem st_word (h : exM l (f + 1) .stmt b i = some r) (hp : p = i) (hb : b < 0) (hk : kindAt l i = 1) (hq : isM l (i + 1) sEq = true) :
    ∃ v : Fo × Nat × Int, exM l f .expr b (i + 2) = some v ∧ r = (.one ⟨8, p, (wantM l v.2.2 v.2.1 sSem).1, textAt l i, i⟩ v.1, wantM l v.2.2 v.2.1 sSem) := by
  have no : ∀ x, isM l i x = false := fun x => by
    cases hx : isM l i x with
    | false => rfl
    | true => have := isM_kind hx; omega
  rw [exM, if_neg (by rw [no]; simp), if_neg (by rw [no]; simp), if_neg (by rw [no]; simp)] at h
  dsimp only at h
  rw [if_neg (by rw [no]; simp), if_neg (by rw [no]; simp), if_pos ⟨hk, hq⟩] at h
  have hw : wordM l b ⟨8, i, 0, e0, 0⟩ i = (⟨8, i, 0, textAt l i, i⟩, i + 1, b) := by unfold wordM; rw [if_neg (by omega), if_pos hk]
  rw [hw] at h
  obtain ⟨v, hv, h⟩ := Option.bind_eq_some_iff.1 h
  injection h with h
  exact ⟨v, hv, by rw [← h, hp]⟩
theorem st_let (h : exM l (f + 1) .stmt b i = some r) (hp : p = i) (hm : isM l i kLet = true) :
    ∃ t v : Fo × Nat × Int, typedM l f (wordM l b ⟨0, 0, 0, e0, 0⟩ (i + 1)).2.2 (wordM l b ⟨0, 0, 0, e0, 0⟩ (i + 1)).2.1 = some t ∧ exM l f .expr (wantM l t.2.2 t.2.1 sEq).2 (wantM l t.2.2 t.2.1 sEq).1 = some v ∧
      r = (.one { (wordM l b ⟨7, p, 0, e0, 0⟩ (i + 1)).1 with til := (wantM l v.2.2 v.2.1 sSem).1 } (t.1.app v.1), wantM l v.2.2 v.2.1 sSem) := by
  rw [exM, if_neg (by rw [isM_ne hm (by decide)]; simp), if_neg (by rw [isM_ne hm (by decide)]; simp), if_pos hm] at h
  dsimp only at h
  rw [wordM_snd b ⟨7, i, 0, e0, 0⟩ ⟨0, 0, 0, e0, 0⟩ (i + 1)] at h
  obtain ⟨t, ht, h⟩ := Option.bind_eq_some_iff.1 h
  obtain ⟨v, hv, h⟩ := Option.bind_eq_some_iff.1 h
  injection h with h
  exact ⟨t, v, ht, hv, by rw [← h, hp]⟩
theorem st_if (h : exM l (f + 1) .stmt b i = some r) (hp : p = i) (hm : isM l i kIf = true) :
    ∃ c k o : Fo × Nat × Int, exM l f .expr b (i + 1) = some c ∧ exM l f .block c.2.2 c.2.1 = some k ∧ otherM l f k.2 = some o ∧ r = (.one ⟨9, p, o.2.1, e0, 0⟩ (c.1.app (k.1.app o.1)), o.2) := by
  rw [exM, if_pos hm] at h
  obtain ⟨c, hc, h⟩ := Option.bind_eq_some_iff.1 h
  obtain ⟨k, hk, h⟩ := Option.bind_eq_some_iff.1 h
  split at h
  · rename_i hh
    obtain ⟨o, ho, h⟩ := Option.bind_eq_some_iff.1 h
    injection h with h
    exact ⟨c, k, o, hc, hk, by unfold otherM; rw [if_pos hh]; exact ho, by rw [← h, hp]⟩
  · rename_i hh
    injection h with h
    exact ⟨c, k, (.zero, k.2), hc, hk, by unfold otherM; rw [if_neg hh], by rw [← h, hp]⟩
theorem st_while (h : exM l (f + 1) .stmt b i = some r) (hp : p = i) (hm : isM l i kWhile = true) :
    ∃ c k : Fo × Nat × Int, exM l f .expr b (i + 1) = some c ∧ exM l f .block c.2.2 c.2.1 = some k ∧ r = (.one ⟨10, p, k.2.1, e0, 0⟩ (c.1.app k.1), k.2) := by
  rw [exM, if_neg (by rw [isM_ne hm (by decide)]; simp), if_pos hm] at h
  obtain ⟨c, hc, h⟩ := Option.bind_eq_some_iff.1 h
  obtain ⟨k, hk, h⟩ := Option.bind_eq_some_iff.1 h
  injection h with h
  exact ⟨c, k, hc, hk, by rw [← h, hp]⟩
theorem st_print (h : exM l (f + 1) .stmt b i = some r) (hp : p = i) (hm : isM l i kPrint = true) : closeM l f 11 p (i + 1, b) = some r := by
  rw [exM, if_neg (by rw [isM_ne hm (by decide)]; simp), if_neg (by rw [isM_ne hm (by decide)]; simp), if_neg (by rw [isM_ne hm (by decide)]; simp)] at h
  dsimp only at h
  rw [if_pos hm] at h
  rw [hp]
  exact h
theorem st_return (h : exM l (f + 1) .stmt b i = some r) (hp : p = i) (hm : isM l i kReturn = true) : closeM l f 12 p (i + 1, b) = some r := by
  rw [exM, if_neg (by rw [isM_ne hm (by decide)]; simp), if_neg (by rw [isM_ne hm (by decide)]; simp), if_neg (by rw [isM_ne hm (by decide)]; simp)] at h
  dsimp only at h
  rw [if_neg (by rw [isM_ne hm (by decide)]; simp), if_pos hm] at h
  rw [hp]
  exact h
theorem st_do (h : exM l (f + 1) .stmt b i = some r) (hp : p = i) (h1 : isM l i kLet = false) (h2 : isM l i kIf = false) (h3 : isM l i kWhile = false) (h4 : isM l i kPrint = false) (h5 : isM l i kReturn = false) (h6 : ¬ (kindAt l i = 1 ∧ isM l (i + 1) sEq = true)) : closeM l f 13 p (i, b) = some r := by
  rw [exM, if_neg (by rw [h2]; simp), if_neg (by rw [h3]; simp), if_neg (by rw [h1]; simp)] at h
  dsimp only at h
  rw [if_neg (by rw [h4]; simp), if_neg (by rw [h5]; simp), if_neg h6] at h
  rw [hp]
  exact h
theorem other_bad {s : Sd} (hb : 0 ≤ s.2) (h : otherM l f s = some r) : r.2.2 = s.2 := by
  unfold otherM at h
  rw [if_neg (fun hh => by have := hh.1; omega)] at h
  injection h with h
  rw [← h]
end
set_option maxHeartbeats 8000000 in
theorem stmt_q (X : Cx) (P : Prop) (f : Nat) (IE : RuleQ X P (exR X f .expr) 136) (IB : RuleQ X P (exR X f .block) 102) (IW : RuleQ X P (wrtR X f) 101) (s : Sd) (w : World) (r : Fo × Sd) (hP : P) (hs : s.2 < 0) (hh : exR X (f + 1) .stmt s = some r) (hS : PSt X w s) :
    Calls Tryz.prog 122 #[X.p] w (NodeQ X w r) := by
  have L0 := Lib.hid ((LS.start hS).alloc w.heap.size rfl 25 zcc)
  have rr := hS.row.cell
  have hrb := hS.lt
  have hl := hS.len
  have hpl := hS.pos_lt
  have hp : pos X s = s.1 := pos_good hs
  rw [hp] at rr hpl
  obtain ⟨p, hpp⟩ : ∃ p, p = s.1 := ⟨_, rfl⟩
  obtain ⟨z, hz⟩ : ∃ z, z = (hasK X s 1 && isM X.l (s.1 + 1) sEq) := ⟨_, rfl⟩
  have HZZ := Lib.hid hz
  rw [← hpp] at rr hpl
  have HP := Lib.hid hpp
  have HH := Lib.hid hh
  have HS := Lib.hid hs
  have IE := Lib.hid IE
  have IB := Lib.hid IB
  have IW := Lib.hid IW
  clear hp hpp hh hS hs hz
  go_enter Tryz.func122, Tryz.ntmps122
  go_upto_region 2 with fail
  go_cut [8] from 8 to 16 (fun s8 wx => s8 = .bool z ∧ Hid (LS X w wx s [(w.heap.size, 25, zcc)] [] (.slice none 0 0) .nil))
  case first =>
    have CH := has_any X s 1 _ L0.out.st (by decide) (by decide)
    cases qh : hasK X s 1
    · rw [qh] at CH
      have CK := Lib.hid CH
      have hz : z = false := by rw [HZZ.out, qh]; rfl
      subst hz
      clear CH qh
      go_wp2_with fail
      refine CK.out.mono ?_
      rintro e wa ⟨rfl, hbw⟩
      have LA := Lib.hid (L0.out.other hbw)
      clear hbw CK
      go_wp2_with fail
      go_meet
      exact ⟨rfl, LA.out⟩
    · rw [qh] at CH
      have CK := Lib.hid CH
      obtain ⟨_, hk⟩ := hasK_good qh
      have hnx := kindAt_next L0.out.st.wf.toWf (i := s.1) (by omega)
      obtain ⟨j, hj⟩ : ∃ j, j = s.1 + 1 := ⟨_, rfl⟩
      have hz : z = isM X.l j sEq := by rw [HZZ.out, qh, hj]; rfl
      rw [← hj] at hnx
      have CT := Lib.hid (fun w' h => tells_any X s j ⟨#[61]⟩ w' h hnx (by decide))
      have hp := HP.out
      have e1 : IntKind.i64.wrap ((p : Int) + 1) = (j : Int) := by rw [IntKind.wrap_i64]; omega
      have HZ2 := Lib.hid hz
      clear CH qh hk hj hz hp hnx
      go_wp2_with fail
      refine CK.out.mono ?_
      rintro e wa ⟨rfl, hbw⟩
      have LA := Lib.hid (L0.out.other hbw)
      clear hbw CK
      go_wp2_with fail
      refine (CT.out _ LA.out.st).mono ?_
      rintro e wb ⟨rfl, hbw⟩
      have LB := Lib.hid (LA.out.other hbw)
      clear hbw CT
      go_wp2_with fail
      go_meet
      exact ⟨by rw [HZ2.out]; rfl, LB.out⟩
  case rest =>
  obtain ⟨rfl, LZ⟩ := hcut
  clear L0
  cases qz : z
  · have HZ : Hid (¬ (kindAt X.l s.1 = 1 ∧ isM X.l (s.1 + 1) sEq = true)) := fun hh => by
      have h1 := HZZ.out
      have : hasK X s 1 = true := by unfold hasK; rw [decide_eq_true HS.out, decide_eq_true hh.1]; rfl
      rw [qz, this, hh.2] at h1
      cases h1
    subst qz
    clear HZZ
    cases q1 : tk X s kLet
    · have CT := Lib.hid (take_no X s ⟨#[108, 101, 116]⟩ _ LZ.out.st (by decide) q1)
      go_wp2_with fail
      refine CT.out.mono ?_
      rintro e w1 ⟨rfl, hSw, hFw⟩
      have L1 := Lib.hid (LZ.out.step hSw hFw)
      clear hSw hFw CT
      have Q1 := Lib.hid (tk_bad q1)
      clear q1
      cases q2 : tk X s kIf
      · have CT := Lib.hid (take_no X s ⟨#[105, 102]⟩ _ L1.out.st (by decide) q2)
        go_wp2_with fail
        refine CT.out.mono ?_
        rintro e w2 ⟨rfl, hSw, hFw⟩
        have L2 := Lib.hid (L1.out.step hSw hFw)
        clear hSw hFw CT
        have Q2 := Lib.hid (tk_bad q2)
        clear q2
        cases q3 : tk X s kWhile
        · have CT := Lib.hid (take_no X s ⟨#[119, 104, 105, 108, 101]⟩ _ L2.out.st (by decide) q3)
          go_wp2_with fail
          refine CT.out.mono ?_
          rintro e w3 ⟨rfl, hSw, hFw⟩
          have L3 := Lib.hid (L2.out.step hSw hFw)
          clear hSw hFw CT
          have Q3 := Lib.hid (tk_bad q3)
          clear q3
          cases q4 : tk X s kPrint
          · have CT := Lib.hid (take_no X s ⟨#[112, 114, 105, 110, 116]⟩ _ L3.out.st (by decide) q4)
            go_wp2_with fail
            refine CT.out.mono ?_
            rintro e w4 ⟨rfl, hSw, hFw⟩
            have L4 := Lib.hid (L3.out.step hSw hFw)
            clear hSw hFw CT
            have Q4 := Lib.hid (tk_bad q4)
            clear q4
            cases q5 : tk X s kReturn
            · have CT := Lib.hid (take_no X s ⟨#[114, 101, 116, 117, 114, 110]⟩ _ L4.out.st (by decide) q5)
              go_wp2_with fail
              refine CT.out.mono ?_
              rintro e w5 ⟨rfl, hSw, hFw⟩
              have L5 := Lib.hid (L4.out.step hSw hFw)
              clear hSw hFw CT
              have Q5 := Lib.hid (tk_bad q5)
              clear q5
              have hc := st_do HH.out HP.out (Q1.out.resolve_left (by have := HS.out; omega)) (Q2.out.resolve_left (by have := HS.out; omega)) (Q3.out.resolve_left (by have := HS.out; omega)) (Q4.out.resolve_left (by have := HS.out; omega)) (Q5.out.resolve_left (by have := HS.out; omega)) HZ.out
              have hs := HS.out
              have CC : Hid (∀ w', PSt X w' s → Calls Tryz.prog 138 #[X.p, .int .i64 13, .int .i64 p] w' (NodeQ X w' r)) := fun w' h => closed_q X P f IE.out 13 p s w' r (fun _ => ⟨hP, hc⟩) (fun h => absurd h (by omega)) h
              clear hs hc Q1 Q2 Q3 Q4 Q5 HZ HH HS HP IE IB IW
              go_wp2_with fail
              refine (CC.out _ L5.out.st).mono ?_
              rintro e wb ⟨h1, k1, A1, c1, rfl, hKw, hSw, hFw, hN1⟩
              obtain ⟨x11, x12, x13, x14, x15⟩ := h1
              have LX := Lib.hid (L5.out.kid hSw hFw hKw)
              have HN1 := Lib.hid hN1
              clear hSw hFw hKw hN1
              have u1 := (LX.out.row 0 rfl).cell
              have u2 := (LX.out.row 0 rfl).thaw
              have LY := Lib.hid (LX.out.put6 0 rfl rfl (.int .i64 x11) (.int .i64 x12) (.int .i64 x13) (.string x14) (.int .i64 x15) (.slice A1 k1.len c1))
              go_wp2
              refine bodyPost_ret ?_ rfl ⟨⟨x11, x12, x13, x14, x15⟩, k1, A1, c1, rfl, (LY.out.kidP 0 rfl).new_ (fun g h => h.1), LY.out.st, LY.out.fr, HN1.out⟩
              simp [results, Tryz.results122, go_sem, u1]
              try first | rfl | exact ⟨rfl, rfl⟩
            · obtain ⟨hg, hm⟩ := tk_good q5
              have hc := st_return HH.out HP.out hm
              have CC : Hid (∀ w', PSt X w' (s.1 + 1, s.2) → Calls Tryz.prog 138 #[X.p, .int .i64 12, .int .i64 p] w' (NodeQ X w' r)) := fun w' h => closed_q X P f IE.out 12 p (s.1 + 1, s.2) w' r (fun _ => ⟨hP, hc⟩) (fun h => absurd h (by dsimp only; omega)) h
              clear hg hm hc
              have CT := Lib.hid (take_yes X s ⟨#[114, 101, 116, 117, 114, 110]⟩ _ L4.out.st (by decide) q5)
              go_wp2_with fail
              refine CT.out.mono ?_
              rintro e wa ⟨rfl, hSw, hFw⟩
              have LA := Lib.hid (L4.out.step hSw hFw)
              clear hSw hFw CT
              clear q5 HH HS HP IE IB IW
              go_wp2_with fail
              refine (CC.out _ LA.out.st).mono ?_
              rintro e wb ⟨h1, k1, A1, c1, rfl, hKw, hSw, hFw, hN1⟩
              obtain ⟨x11, x12, x13, x14, x15⟩ := h1
              have LX := Lib.hid (LA.out.kid hSw hFw hKw)
              have HN1 := Lib.hid hN1
              clear hSw hFw hKw hN1
              have u1 := (LX.out.row 0 rfl).cell
              have u2 := (LX.out.row 0 rfl).thaw
              have LY := Lib.hid (LX.out.put6 0 rfl rfl (.int .i64 x11) (.int .i64 x12) (.int .i64 x13) (.string x14) (.int .i64 x15) (.slice A1 k1.len c1))
              go_wp2
              refine bodyPost_ret ?_ rfl ⟨⟨x11, x12, x13, x14, x15⟩, k1, A1, c1, rfl, (LY.out.kidP 0 rfl).new_ (fun g h => h.1), LY.out.st, LY.out.fr, HN1.out⟩
              simp [results, Tryz.results122, go_sem, u1]
              try first | rfl | exact ⟨rfl, rfl⟩
          · obtain ⟨hg, hm⟩ := tk_good q4
            have hc := st_print HH.out HP.out hm
            have CC : Hid (∀ w', PSt X w' (s.1 + 1, s.2) → Calls Tryz.prog 138 #[X.p, .int .i64 11, .int .i64 p] w' (NodeQ X w' r)) := fun w' h => closed_q X P f IE.out 11 p (s.1 + 1, s.2) w' r (fun _ => ⟨hP, hc⟩) (fun h => absurd h (by dsimp only; omega)) h
            clear hg hm hc
            have CT := Lib.hid (take_yes X s ⟨#[112, 114, 105, 110, 116]⟩ _ L3.out.st (by decide) q4)
            go_wp2_with fail
            refine CT.out.mono ?_
            rintro e wa ⟨rfl, hSw, hFw⟩
            have LA := Lib.hid (L3.out.step hSw hFw)
            clear hSw hFw CT
            clear q4 HH HS HP IE IB IW
            go_wp2_with fail
            refine (CC.out _ LA.out.st).mono ?_
            rintro e wb ⟨h1, k1, A1, c1, rfl, hKw, hSw, hFw, hN1⟩
            obtain ⟨x11, x12, x13, x14, x15⟩ := h1
            have LX := Lib.hid (LA.out.kid hSw hFw hKw)
            have HN1 := Lib.hid hN1
            clear hSw hFw hKw hN1
            have u1 := (LX.out.row 0 rfl).cell
            have u2 := (LX.out.row 0 rfl).thaw
            have LY := Lib.hid (LX.out.put6 0 rfl rfl (.int .i64 x11) (.int .i64 x12) (.int .i64 x13) (.string x14) (.int .i64 x15) (.slice A1 k1.len c1))
            go_wp2
            refine bodyPost_ret ?_ rfl ⟨⟨x11, x12, x13, x14, x15⟩, k1, A1, c1, rfl, (LY.out.kidP 0 rfl).new_ (fun g h => h.1), LY.out.st, LY.out.fr, HN1.out⟩
            simp [results, Tryz.results122, go_sem, u1]
            try first | rfl | exact ⟨rfl, rfl⟩
        · obtain ⟨hg, hm⟩ := tk_good q3
          obtain ⟨c, k, hc, hk, hr⟩ := st_while HH.out HP.out hm
          have C1 : Hid (∀ w', PSt X w' (s.1 + 1, s.2) → Calls Tryz.prog 136 #[X.p] w' (NodeQ X w' c)) := fun w' h => IE.out (s.1 + 1, s.2) w' c (fun _ => ⟨hP, hc⟩) (fun h => absurd h (by dsimp only; omega)) h
          have C2 : Hid (∀ w', PSt X w' c.2 → Calls Tryz.prog 102 #[X.p] w' (NodeQ X w' k)) := fun w' h => IB.out c.2 w' k (fun _ => ⟨hP, hk⟩) (fun h => exM_bad _ _ _ _ _ h hk) h
          have HG3 : Hid (k.2.2 < 0 → c.2.2 < 0) := fun h => exM_was hk h
          have HR2 := Lib.hid hr
          clear hg hm hc hk hr
          have CT := Lib.hid (take_yes X s ⟨#[119, 104, 105, 108, 101]⟩ _ L2.out.st (by decide) q3)
          go_wp2_with fail
          refine CT.out.mono ?_
          rintro e wa ⟨rfl, hSw, hFw⟩
          have LA := Lib.hid (L2.out.step hSw hFw)
          clear hSw hFw CT
          clear q3 HH HS HP IE IB IW
          go_wp2_with fail
          refine (C1.out _ LA.out.st).mono ?_
          rintro e wb ⟨h1, k1, A1, c1, rfl, hKw, hSw, hFw, hN1⟩
          obtain ⟨x11, x12, x13, x14, x15⟩ := h1
          have LB := Lib.hid (LA.out.kid hSw hFw hKw)
          have HN1 := Lib.hid hN1
          clear hSw hFw hKw hN1
          go_wp2_with fail
          refine (C2.out _ LB.out.st).mono ?_
          rintro e wc ⟨h2, k2, A2, c2, rfl, hKw, hSw, hFw, hN2⟩
          obtain ⟨x21, x22, x23, x24, x25⟩ := h2
          have LC := Lib.hid (LB.out.kid hSw hFw hKw)
          have HN2 := Lib.hid hN2
          clear hSw hFw hKw hN2
          have LE := Lib.hid (LC.out.slice wc.heap.size rfl (KV.two (h1 := ⟨x11, x12, x13, x14, x15⟩) (h2 := ⟨x21, x22, x23, x24, x25⟩) (LC.out.kidP 1 rfl) (LC.out.kidP 0 rfl)))
          have HR : Hid (k.2.2 < 0 → r = (.one ⟨10, p, pos X k.2, e0, 0⟩ ((Fo.one ⟨x11, x12, x13, x14, x15⟩ k1).app (.one ⟨x21, x22, x23, x24, x25⟩ k2)), k.2)) := fun h => by
            rw [HR2.out, HN1.out (HG3.out h), HN2.out h, pos_good h]
          have HB : Hid (0 ≤ k.2.2 → r.2.2 = k.2.2) := fun h => by rw [HR2.out]
          clear C1 C2 HG3 HR2 HN1 HN2
          go_wp2_with fail
          refine (node_any X k.2 10 p (some ⟨wc.heap.size, 0, none⟩) 2 2 _ LE.out.st).mono ?_
          rintro e wf ⟨rfl, hbw⟩
          have LFb := Lib.hid (LE.out.other hbw)
          have u1 := (LFb.out.row 0 rfl).cell
          have u2 := (LFb.out.row 0 rfl).thaw
          have LF := Lib.hid (LFb.out.put6 0 rfl rfl (.int .i64 10) (.int .i64 p) (.int .i64 (pos X k.2)) (.string e0) (.int .i64 0) (.slice (some ⟨wc.heap.size, 0, none⟩) 2 2))
          clear hbw
          go_wp2
          refine bodyPost_ret ?_ rfl ⟨⟨10, p, pos X k.2, e0, 0⟩, ((Fo.one ⟨x11, x12, x13, x14, x15⟩ k1).app (.one ⟨x21, x22, x23, x24, x25⟩ k2)), some ⟨wc.heap.size, 0, none⟩, 2, rfl, (LF.out.kidP 0 rfl).new_ (fun g h => h.1), PSt.to LF.out.st (fun h => by rw [HR.out h]) HB.out, LF.out.fr, ?_⟩
          · simp [results, Tryz.results122, go_sem, u1]
            try first | rfl | exact ⟨rfl, rfl⟩
          · intro hh
            rw [HR.out (by by_cases h : (k.2 : Sd).2 < 0; exact h; rw [HB.out (by omega)] at hh; exact absurd hh h)]
      · obtain ⟨hg, hm⟩ := tk_good q2
        obtain ⟨c, k, o, hc, hk, ho, hr⟩ := st_if HH.out HP.out hm
        have C1 : Hid (∀ w', PSt X w' (s.1 + 1, s.2) → Calls Tryz.prog 136 #[X.p] w' (NodeQ X w' c)) := fun w' h => IE.out (s.1 + 1, s.2) w' c (fun _ => ⟨hP, hc⟩) (fun h => absurd h (by dsimp only; omega)) h
        have C2 : Hid (∀ w', PSt X w' c.2 → Calls Tryz.prog 102 #[X.p] w' (NodeQ X w' k)) := fun w' h => IB.out c.2 w' k (fun _ => ⟨hP, hk⟩) (fun h => exM_bad _ _ _ _ _ h hk) h
        have C3 : Hid (∀ w', PSt X w' k.2 → Calls Tryz.prog 137 #[X.p] w' (NodeQ X w' o)) := fun w' h => other_q X P f IB.out k.2 w' o (fun _ => ⟨hP, ho⟩) (fun h => other_bad h ho) h
        have HG3 : Hid (o.2.2 < 0 → k.2.2 < 0 ∧ c.2.2 < 0) := fun h => by
          have g2 : k.2.2 < 0 := by
            by_cases hh : 0 ≤ k.2.2
            · have := other_bad hh ho; omega
            · omega
          exact ⟨g2, exM_was hk g2⟩
        have HR2 := Lib.hid hr
        clear hg hm hc hk ho hr
        have CT := Lib.hid (take_yes X s ⟨#[105, 102]⟩ _ L1.out.st (by decide) q2)
        go_wp2_with fail
        refine CT.out.mono ?_
        rintro e wa ⟨rfl, hSw, hFw⟩
        have LA := Lib.hid (L1.out.step hSw hFw)
        clear hSw hFw CT
        clear q2 HH HS HP IE IB IW
        go_wp2_with fail
        refine (C1.out _ LA.out.st).mono ?_
        rintro e wb ⟨h1, k1, A1, c1, rfl, hKw, hSw, hFw, hN1⟩
        obtain ⟨x11, x12, x13, x14, x15⟩ := h1
        have LB := Lib.hid (LA.out.kid hSw hFw hKw)
        have HN1 := Lib.hid hN1
        clear hSw hFw hKw hN1
        go_wp2_with fail
        refine (C2.out _ LB.out.st).mono ?_
        rintro e wc ⟨h2, k2, A2, c2, rfl, hKw, hSw, hFw, hN2⟩
        obtain ⟨x21, x22, x23, x24, x25⟩ := h2
        have LC := Lib.hid (LB.out.kid hSw hFw hKw)
        have HN2 := Lib.hid hN2
        clear hSw hFw hKw hN2
        go_wp2_with fail
        refine (C3.out _ LC.out.st).mono ?_
        rintro e wd ⟨h3, k3, A3, c3, rfl, hKw, hSw, hFw, hN3⟩
        obtain ⟨x31, x32, x33, x34, x35⟩ := h3
        have LD := Lib.hid (LC.out.kid hSw hFw hKw)
        have HN3 := Lib.hid hN3
        clear hSw hFw hKw hN3
        have LE := Lib.hid (LD.out.slice wd.heap.size rfl (KV.three (h1 := ⟨x11, x12, x13, x14, x15⟩) (h2 := ⟨x21, x22, x23, x24, x25⟩) (h3 := ⟨x31, x32, x33, x34, x35⟩) (LD.out.kidP 2 rfl) (LD.out.kidP 1 rfl) (LD.out.kidP 0 rfl)))
        have HR : Hid (o.2.2 < 0 → r = (.one ⟨9, p, pos X o.2, e0, 0⟩ ((Fo.one ⟨x11, x12, x13, x14, x15⟩ k1).app ((Fo.one ⟨x21, x22, x23, x24, x25⟩ k2).app (.one ⟨x31, x32, x33, x34, x35⟩ k3))), o.2)) := fun h => by
          obtain ⟨g2, g1⟩ := HG3.out h
          rw [HR2.out, HN1.out g1, HN2.out g2, HN3.out h, pos_good h]
        have HB : Hid (0 ≤ o.2.2 → r.2.2 = o.2.2) := fun h => by rw [HR2.out]
        clear C1 C2 C3 HG3 HR2 HN1 HN2 HN3
        go_wp2_with fail
        refine (node_any X o.2 9 p (some ⟨wd.heap.size, 0, none⟩) 3 3 _ LE.out.st).mono ?_
        rintro e wf ⟨rfl, hbw⟩
        have LFb := Lib.hid (LE.out.other hbw)
        have u1 := (LFb.out.row 0 rfl).cell
        have u2 := (LFb.out.row 0 rfl).thaw
        have LF := Lib.hid (LFb.out.put6 0 rfl rfl (.int .i64 9) (.int .i64 p) (.int .i64 (pos X o.2)) (.string e0) (.int .i64 0) (.slice (some ⟨wd.heap.size, 0, none⟩) 3 3))
        clear hbw
        go_wp2
        refine bodyPost_ret ?_ rfl ⟨⟨9, p, pos X o.2, e0, 0⟩, ((Fo.one ⟨x11, x12, x13, x14, x15⟩ k1).app ((Fo.one ⟨x21, x22, x23, x24, x25⟩ k2).app (.one ⟨x31, x32, x33, x34, x35⟩ k3))), some ⟨wd.heap.size, 0, none⟩, 3, rfl, (LF.out.kidP 0 rfl).new_ (fun g h => h.1), PSt.to LF.out.st (fun h => by rw [HR.out h]) HB.out, LF.out.fr, ?_⟩
        · simp [results, Tryz.results122, go_sem, u1]
          try first | rfl | exact ⟨rfl, rfl⟩
        · intro hh
          rw [HR.out (by by_cases h : (o.2 : Sd).2 < 0; exact h; rw [HB.out (by omega)] at hh; exact absurd hh h)]
    · obtain ⟨hg, hm⟩ := tk_good q1
      obtain ⟨t, v, ht, hv, hr⟩ := st_let HH.out HP.out hm
      have CC : Hid (∀ w', PSt X w' (s.1 + 1, s.2) → Calls Tryz.prog 135 #[X.p, .int .i64 p] w' (NodeQ X w' r)) := fun w' h => let_q X P f IE.out IW.out p (s.1 + 1, s.2) w' r t v hP ht hv hr h
      clear hg hm ht hv hr
      have CT := Lib.hid (take_yes X s ⟨#[108, 101, 116]⟩ _ LZ.out.st (by decide) q1)
      go_wp2_with fail
      refine CT.out.mono ?_
      rintro e wa ⟨rfl, hSw, hFw⟩
      have LA := Lib.hid (LZ.out.step hSw hFw)
      clear hSw hFw CT
      clear q1 HH HS HP IE IB IW
      go_wp2_with fail
      refine (CC.out _ LA.out.st).mono ?_
      rintro e wb ⟨h1, k1, A1, c1, rfl, hKw, hSw, hFw, hN1⟩
      obtain ⟨x11, x12, x13, x14, x15⟩ := h1
      have LX := Lib.hid (LA.out.kid hSw hFw hKw)
      have HN1 := Lib.hid hN1
      clear hSw hFw hKw hN1
      have u1 := (LX.out.row 0 rfl).cell
      have u2 := (LX.out.row 0 rfl).thaw
      have LY := Lib.hid (LX.out.put6 0 rfl rfl (.int .i64 x11) (.int .i64 x12) (.int .i64 x13) (.string x14) (.int .i64 x15) (.slice A1 k1.len c1))
      go_wp2
      refine bodyPost_ret ?_ rfl ⟨⟨x11, x12, x13, x14, x15⟩, k1, A1, c1, rfl, (LY.out.kidP 0 rfl).new_ (fun g h => h.1), LY.out.st, LY.out.fr, HN1.out⟩
      simp [results, Tryz.results122, go_sem, u1]
      try first | rfl | exact ⟨rfl, rfl⟩
  · have h1 := HZZ.out
    rw [qz, eq_comm, Bool.and_eq_true] at h1
    obtain ⟨hg, hk⟩ := hasK_good h1.1
    obtain ⟨v, hv, hr⟩ := st_word HH.out HP.out hg hk h1.2
    have CC : Hid (∀ w', PSt X w' s → Calls Tryz.prog 134 #[X.p, .int .i64 p] w' (NodeQ X w' r)) := fun w' h => set_q X P f IE.out p s w' r v hP hg hk h1.2 hv hr h
    subst qz
    clear h1 hg hk hv hr HZZ HH HS HP IE IB IW
    go_wp2_with fail
    refine (CC.out _ LZ.out.st).mono ?_
    rintro e wb ⟨h1, k1, A1, c1, rfl, hKw, hSw, hFw, hN1⟩
    obtain ⟨x11, x12, x13, x14, x15⟩ := h1
    have LX := Lib.hid (LZ.out.kid hSw hFw hKw)
    have HN1 := Lib.hid hN1
    clear hSw hFw hKw hN1
    have u1 := (LX.out.row 0 rfl).cell
    have u2 := (LX.out.row 0 rfl).thaw
    have LY := Lib.hid (LX.out.put6 0 rfl rfl (.int .i64 x11) (.int .i64 x12) (.int .i64 x13) (.string x14) (.int .i64 x15) (.slice A1 k1.len c1))
    go_wp2
    refine bodyPost_ret ?_ rfl ⟨⟨x11, x12, x13, x14, x15⟩, k1, A1, c1, rfl, (LY.out.kidP 0 rfl).new_ (fun g h => h.1), LY.out.st, LY.out.fr, HN1.out⟩
    simp [results, Tryz.results122, go_sem, u1]
    try first | rfl | exact ⟨rfl, rfl⟩
end Pg
end Go.Proofs.YtiabkkdeonepgaaGreatDoor
namespace Go.Proofs.YtiabkkdeonepgaaGreatDoor
open Go.RowKit
namespace Pg
open Ps
def InvB (X : Cx) (P : Prop) (r : Fo × Sd) (p fk : Nat) (sk : Sd) (K : Fo) : Prop :=
  (sk.2 < 0 → P ∧ ∃ q : Fo × Sd, exM X.l fk .stmts sk.2 sk.1 = some q ∧ r = (.one ⟨6, p, (wantM X.l q.2.2 q.2.1 sShut).1, e0, 0⟩ (K.app q.1), wantM X.l q.2.2 q.2.1 sShut)) ∧ (0 ≤ sk.2 → r.2.2 = sk.2)
theorem block_pure {X : Cx} {P : Prop} {f : Nat} {s : Sd} {r : Fo × Sd} (h1 : s.2 < 0 → P ∧ exR X (f + 1) .block s = some r) (h2 : 0 ≤ s.2 → r.2.2 = s.2) : InvB X P r (pos X s) f (wantS X s sOpen) .nil := by
  by_cases hs : 0 ≤ s.2
  · rw [wantS_bad hs]
    exact ⟨fun h => absurd h (by omega), fun _ => h2 hs⟩
  · obtain ⟨hP, h⟩ := h1 (by omega)
    unfold exR at h
    rw [exM] at h
    dsimp only at h
    obtain ⟨q, hq, h⟩ := Option.bind_eq_some_iff.1 h
    injection h with h
    refine ⟨fun _ => ⟨hP, q, hq, by rw [← h, pos_good (by omega)]; rfl⟩, fun hb => ?_⟩
    have := exM_bad _ _ _ _ _ hb hq
    rw [← h]
    dsimp only
    rw [wantM_bad (by have : (wantS X s sOpen).2 = (wantM X.l s.2 s.1 sOpen).2 := rfl; omega)]
    exact this
theorem InvB.stop {X : Cx} {P : Prop} {r : Fo × Sd} {p fk : Nat} {sk : Sd} {K : Fo} (h : InvB X P r p fk sk K) (hb : sk.2 < 0) (hm : isM X.l sk.1 sShut = true) : r = (.one ⟨6, p, sk.1 + 1, e0, 0⟩ K, (sk.1 + 1, sk.2)) := by
  obtain ⟨hP, q, hq, hr⟩ := h.1 hb
  have hw : wantM X.l sk.2 sk.1 sShut = (sk.1 + 1, sk.2) := by unfold wantM; rw [if_neg (by omega), if_pos hm]
  cases fk with
  | zero => rw [exM] at hq; cases hq
  | succ fk =>
    rw [exM, if_neg (fun hh => hh.2 hm)] at hq
    injection hq with hq
    subst hq
    dsimp only at hr
    rw [hw, Fo.app_nil] at hr
    exact hr
theorem InvB.go {X : Cx} {P : Prop} {r : Fo × Sd} {p fk : Nat} {sk : Sd} {K : Fo} (h : InvB X P r p fk sk K) (hb : sk.2 < 0) (hm : isM X.l sk.1 sShut = false) :
    ∃ f' t, fk = f' + 1 ∧ P ∧ exM X.l f' .stmt sk.2 sk.1 = some t ∧ ∀ h k, (t.2.2 < 0 → t.1 = .one h k) → InvB X P r p f' t.2 (K.app (.one h k)) := by
  obtain ⟨hP, q, hq, hr⟩ := h.1 hb
  cases fk with
  | zero => rw [exM] at hq; cases hq
  | succ fk =>
    rw [exM, if_pos ⟨hb, by rw [hm]; simp⟩] at hq
    obtain ⟨t, ht, hq⟩ := Option.bind_eq_some_iff.1 hq
    obtain ⟨q', hq', e⟩ := Option.map_eq_some_iff.1 hq
    refine ⟨fk, t, rfl, hP, ht, fun h k hn => ⟨fun hg => ⟨hP, q', hq', ?_⟩, fun hg => ?_⟩⟩
    · rw [hr, ← e, hn hg, Fo.app_assoc]
    · rw [hr, ← e]
      dsimp only
      rw [exM_bad _ _ _ _ _ hg hq'] 
      have := exM_bad _ _ _ _ _ hg hq'
      rw [wantM_bad (by omega)]
set_option maxHeartbeats 8000000 in
theorem block_q (X : Cx) (P : Prop) (f : Nat) (hf : f ≤ 1000000) (I : ∀ f', f' + 1 ≤ f → ∀ (s : Sd) (w : World) (r : Fo × Sd), P → s.2 < 0 → exR X (f' + 1) .stmt s = some r → PSt X w s → Calls Tryz.prog 122 #[X.p] w (NodeQ X w r)) : RuleQ X P (exR X (f + 1) .block) 102 := by
  intro s w r hr1 hr2 hS
  have INV0 := Lib.hid (block_pure hr1 hr2)
  have L0 := Lib.hid ((LS.start hS).alloc w.heap.size rfl 25 zcc)
  have rr := hS.row.cell
  have hrb := hS.lt
  have hl := hS.len
  have hpl := hS.pos_lt
  have HI := Lib.hid I
  clear hr1 hr2 hS I
  generalize pos X s = p at *
  go_enter Tryz.func102, Tryz.ntmps102
  have CW := Lib.hid (want_any X s ⟨#[123]⟩ _ L0.out.st (by decide))
  go_wp2_with fail
  refine CW.out.mono ?_
  rintro e w1 ⟨rfl, hSw, hFw⟩
  have L1 := Lib.hid (L0.out.step hSw hFw)
  clear hSw hFw CW
  clear rr
  go_wp2_with fail
  go_loopg [4] (f + 1) (fun kx s4 wr => ∃ (fk : Nat) (sk : Sd) (K : Fo) (u : Value), u = s4 ∧ fk ≤ kx ∧ K.len + fk ≤ f ∧ Hid (InvB X P r p fk sk K) ∧ Hid (LS X w wr sk [(w.heap.size, 25, zcc)] [] s4 K))
  case atStart => exact ⟨f, wantS X s sOpen, .nil, _, rfl, by omega, by simp [Fo.len], INV0.out, L1.out⟩
  case round =>
    obtain ⟨fk, sk, K, u, rfl, hkx, hlen, HG, LK⟩ := hrel
    clear INV0 L1 L0
    have rk := LK.out.st.row.cell
    by_cases hs : 0 ≤ sk.2
    · rw [decide_eq_true hs] at rk
      have HBAD := Lib.hid (HG.out.2 hs)
      have HSS := Lib.hid hs
      clear hs
      go_wp2_with fail
      obtain ⟨A, cap, hv, hcap, _⟩ := LK.out.list
      subst hv
      have LD := Lib.hid LK.out.toKid
      have HB : Hid (0 ≤ sk.2 → r.2.2 = sk.2) := fun _ => HBAD.out
      have HR : Hid (sk.2 < 0 → r = (.one ⟨6, p, pos X sk, e0, 0⟩ K, sk)) := fun h => absurd h (by have := HSS.out; omega)
      clear HG LK HBAD HSS rk
      go_wp2_with fail
      refine (node_any X sk 6 p (A) K.len cap _ LD.out.st).mono ?_
      rintro e wd ⟨rfl, hbw⟩
      have LEb := Lib.hid (LD.out.other hbw)
      have u1 := (LEb.out.row 0 rfl).cell
      have u2 := (LEb.out.row 0 rfl).thaw
      have LE := Lib.hid (LEb.out.put6 0 rfl rfl (.int .i64 6) (.int .i64 p) (.int .i64 (pos X sk)) (.string e0) (.int .i64 0) (.slice (A) K.len cap))
      clear hbw
      go_wp2
      refine bodyPost_ret ?_ rfl ⟨⟨6, p, pos X sk, e0, 0⟩, K, A, cap, rfl, (LE.out.kidP 0 rfl).new_ (fun g h => h.1), PSt.to LE.out.st (fun h => by rw [HR.out h]) HB.out, LE.out.fr, ?_⟩
      · simp [results, Tryz.results102, go_sem, u1]
        try first | rfl | exact ⟨rfl, rfl⟩
      · intro hh
        rw [HR.out (by by_cases h : (sk : Sd).2 < 0; exact h; rw [HB.out (by omega)] at hh; exact absurd hh h)]
    · rw [decide_eq_false hs] at rk
      have hs' : sk.2 < 0 := by omega
      cases q1 : tk X sk sShut
      · have hm := (tk_bad q1).resolve_left hs
        obtain ⟨f', t, e1, hP, ht, hI⟩ := HG.out.go hs' hm
        have CT := Lib.hid (take_no X sk ⟨#[125]⟩ _ LK.out.st (by decide) q1)
        have C2 : Hid (∀ w', PSt X w' sk → Calls Tryz.prog 122 #[X.p] w' (NodeQ X w' t)) := fun w' h => by
          cases f' with
          | zero => rw [exM] at ht; cases ht
          | succ f' => exact HI.out f' (by omega) sk w' t hP hs' ht h
        have HINV2 := Lib.hid hI
        have HF := Lib.hid e1
        clear q1 hm hP ht hI e1 HG hs hs'
        go_wp2_with fail
        refine CT.out.mono ?_
        rintro e w3 ⟨rfl, hS3, hF3⟩
        have L4 := Lib.hid (LK.out.step hS3 hF3)
        clear hS3 hF3 CT rk
        go_wp2_with fail
        refine (C2.out _ L4.out.st).mono ?_
        rintro e w5 ⟨h5, k5, A5, c5, rfl, hK5, hS5, hF5, hN5⟩
        have INV := Lib.hid (HINV2.out h5 k5 hN5)
        obtain ⟨z1, z2, z3, z4, z5⟩ := h5
        have M6 := Lib.hid ((L4.out.kid hS5 hF5 hK5).other (bel1 _ (.cells (ncc ⟨z1, z2, z3, z4, z5⟩ A5 k5.len c5) 25)))
        obtain ⟨cs, o1, o2⟩ := M6.out.own
        have O1 := Lib.hid o1
        have O2 := Lib.hid o2
        obtain ⟨AK, cK, eK, hcK, _⟩ := M6.out.list
        subst eK
        obtain ⟨i0, hi0, hz0, hz1, hz2⟩ := info_parts info25
        have b5 := Lib.hid M6.out.size
        have b3' : K.len + 1 ≤ maxLen := by unfold maxLen; omega
        have b4' : (K.len + 1) * 72 ≤ 140737488355328 := by omega
        have CN := Lib.hid (cells_nd w5 (.int .i64 z1) (.int .i64 z2) (.int .i64 z3) (.string z4) (.int .i64 z5) (.slice A5 k5.len c5))
        clear o1 o2 hK5 hS5 hF5 hN5 HINV2 C2 L4
        go_wp2_with (at_builtin; refine wpList_append_at rfl (.tmp 21) (.tmp 24) 23 rfl w.heap.size 25 i0 (.agg #[.int .i64 0, .int .i64 0, .int .i64 0, .string ⟨#[]⟩, .int .i64 0, .slice none 0 0]) 6 72 Tryz.underlying23 hi0 hz0 hz1 hz2 rfl (by decide) _ K.len cs rfl O1.out ⟨w5.heap.size, 0, none⟩ 1 1 [.int .i64 z1, .int .i64 z2, .int .i64 z3, .string z4, .int .i64 z5, .slice A5 k5.len c5] rfl rfl (by simpa using CN.out) (one_nd ⟨z1, z2, z3, z4, z5⟩ _ _ _) b3' b4' b5.out ?_)
        intro v' w7 hown' hgrow hat
        have M7 := Lib.hid (M6.out.push ⟨O1.out, O2.out⟩ (k := .one ⟨z1, z2, z3, z4, z5⟩ k5) (FC.one (M6.out.kidP 0 rfl)) hown' hgrow (fun j hj => by
          rcases hat j hj with h | h
          · exact .inl h
          · exact .inr (by simpa using h))).noK
        have hKl : (K.app (.one ⟨z1, z2, z3, z4, z5⟩ k5)).len = K.len + 1 := by rw [Fo.len_app]; rfl
        have HKL := Lib.hid hKl
        have hf1 := HF.out
        clear hown' hgrow hat b3' b4' b5 CN O1 O2 M6 hKl
        go_wp2_with fail
        go_roundg f'
        case measure => omega
        case rel => exact ⟨f', t.2, K.app (.one ⟨z1, z2, z3, z4, z5⟩ k5), _, rfl, by omega, by rw [HKL.out]; omega, INV.out, M7.out⟩
      · obtain ⟨hg, hm⟩ := tk_good q1
        have hR := HG.out.stop hg hm
        have CT := Lib.hid (take_yes X sk ⟨#[125]⟩ _ LK.out.st (by decide) q1)
        have HR : Hid (((sk.1 + 1, sk.2) : Sd).2 < 0 → r = (.one ⟨6, p, pos X (sk.1 + 1, sk.2), e0, 0⟩ K, (sk.1 + 1, sk.2))) := fun h => by rw [hR, pos_good h]
        have HB : Hid (0 ≤ ((sk.1 + 1, sk.2) : Sd).2 → r.2.2 = ((sk.1 + 1, sk.2) : Sd).2) := fun h => absurd h (by dsimp only; omega)
        clear q1 hg hm hR HG hs hs'
        go_wp2_with fail
        refine CT.out.mono ?_
        rintro e w3 ⟨rfl, hS3, hF3⟩
        have L4 := Lib.hid (LK.out.step hS3 hF3)
        clear hS3 hF3 CT rk
        go_wp2_with fail
        obtain ⟨A, cap, hv, hcap, _⟩ := L4.out.list
        subst hv
        have LD := Lib.hid L4.out.toKid
        clear L4 LK
        go_wp2_with fail
        refine (node_any X (sk.1 + 1, sk.2) 6 p (A) K.len cap _ LD.out.st).mono ?_
        rintro e wd ⟨rfl, hbw⟩
        have LEb := Lib.hid (LD.out.other hbw)
        have u1 := (LEb.out.row 0 rfl).cell
        have u2 := (LEb.out.row 0 rfl).thaw
        have LE := Lib.hid (LEb.out.put6 0 rfl rfl (.int .i64 6) (.int .i64 p) (.int .i64 (pos X (sk.1 + 1, sk.2))) (.string e0) (.int .i64 0) (.slice (A) K.len cap))
        clear hbw
        go_wp2
        refine bodyPost_ret ?_ rfl ⟨⟨6, p, pos X (sk.1 + 1, sk.2), e0, 0⟩, K, A, cap, rfl, (LE.out.kidP 0 rfl).new_ (fun g h => h.1), PSt.to LE.out.st (fun h => by rw [HR.out h]) HB.out, LE.out.fr, ?_⟩
        · simp [results, Tryz.results102, go_sem, u1]
          try first | rfl | exact ⟨rfl, rfl⟩
        · intro hh
          rw [HR.out (by by_cases h : ((sk.1 + 1, sk.2) : Sd).2 < 0; exact h; rw [HB.out (by omega)] at hh; exact absurd hh h)]
end Pg
end Go.Proofs.YtiabkkdeonepgaaGreatDoor
namespace Go.Proofs.YtiabkkdeonepgaaGreatDoor
open Go.RowKit
namespace Pg
open Ps
def itemM (l : List Tok) (f : Nat) (s : Sd) : Res := if isM l s.1 kUse = true then some (useM l s.2 s.1) else defM l f s.2 s.1
def InvF (X : Cx) (P : Prop) (r : Fo × Sd) (fk : Nat) (sk : Sd) (K : Fo) : Prop :=
  (sk.2 < 0 → P ∧ ∃ q : Fo × Sd, itemsM X.l fk sk.2 sk.1 = some q ∧ r = (.one ⟨1, 0, q.2.1, e0, 0⟩ (K.app q.1), q.2)) ∧ (0 ≤ sk.2 → r.2.2 = sk.2)
abbrev fileR (X : Cx) (f : Nat) : Sd → Res := fun s => (itemsM X.l f s.2 s.1).bind fun x => some (.one ⟨1, 0, x.2.1, e0, 0⟩ x.1, x.2)
theorem items_bad {l : List Tok} {f : Nat} {b : Int} {i : Nat} {r : Fo × Nat × Int} (hb : 0 ≤ b) (h : itemsM l f b i = some r) : r.2.2 = b := by
  cases f with
  | zero => rw [itemsM] at h; cases h
  | succ f => rw [itemsM, if_neg (fun hh => by have := hh.1; omega)] at h; injection h with h; rw [← h]
theorem file_pure {X : Cx} {P : Prop} {f : Nat} {s : Sd} {r : Fo × Sd} (h1 : s.2 < 0 → P ∧ fileR X f s = some r) (h2 : 0 ≤ s.2 → r.2.2 = s.2) : InvF X P r f s .nil := by
  refine ⟨fun hs => ?_, h2⟩
  obtain ⟨hP, h⟩ := h1 hs
  obtain ⟨q, hq, h⟩ := Option.bind_eq_some_iff.1 h
  injection h with h
  exact ⟨hP, q, hq, by rw [← h]; rfl⟩
theorem InvF.stop {X : Cx} {P : Prop} {r : Fo × Sd} {fk : Nat} {sk : Sd} {K : Fo} (h : InvF X P r fk sk K) (hb : sk.2 < 0) (hm : kindAt X.l sk.1 = 0) : r = (.one ⟨1, 0, sk.1, e0, 0⟩ K, sk) := by
  obtain ⟨hP, q, hq, hr⟩ := h.1 hb
  cases fk with
  | zero => rw [itemsM] at hq; cases hq
  | succ fk =>
    rw [itemsM, if_neg (fun hh => hh.2 hm)] at hq
    injection hq with hq
    subst hq
    rw [hr, Fo.app_nil]
theorem InvF.go {X : Cx} {P : Prop} {r : Fo × Sd} {fk : Nat} {sk : Sd} {K : Fo} (h : InvF X P r fk sk K) (hb : sk.2 < 0) (hm : kindAt X.l sk.1 ≠ 0) :
    ∃ f' t, fk = f' + 1 ∧ P ∧ itemM X.l f' sk = some t ∧ ∀ h k, (t.2.2 < 0 → t.1 = .one h k) → InvF X P r f' t.2 (K.app (.one h k)) := by
  obtain ⟨hP, q, hq, hr⟩ := h.1 hb
  cases fk with
  | zero => rw [itemsM] at hq; cases hq
  | succ fk =>
    have key : ∃ t : Fo × Sd, itemM X.l fk sk = some t ∧ (itemsM X.l fk t.2.2 t.2.1).pre t.1 = some q := by
      rw [itemsM, if_pos ⟨hb, hm⟩] at hq
      unfold itemM
      split at hq
      · rename_i hu
        exact ⟨_, by rw [if_pos hu], hq⟩
      · rename_i hu
        obtain ⟨t, ht, hq⟩ := Option.bind_eq_some_iff.1 hq
        exact ⟨t, by rw [if_neg hu]; exact ht, hq⟩
    obtain ⟨t, ht, hq⟩ := key
    obtain ⟨q', hq', e⟩ := Option.map_eq_some_iff.1 hq
    refine ⟨fk, t, rfl, hP, ht, fun h k hn => ⟨fun hg => ⟨hP, q', hq', ?_⟩, fun hg => ?_⟩⟩
    · rw [hr, ← e, hn hg, Fo.app_assoc]
    · rw [hr, ← e]
      exact (items_bad hg hq' : q'.2.2 = t.2.2)
theorem it_use {l : List Tok} {f : Nat} {s : Sd} {r : Fo × Sd} (h : itemM l f s = some r) (hm : isM l s.1 kUse = true) : r = useM l s.2 s.1 := by
  unfold itemM at h
  rw [if_pos hm] at h
  injection h with h; exact h.symm
theorem it_def {X : Cx} {f p : Nat} {s : Sd} {r : Fo × Sd} (h : itemM X.l f s = some r) (hp : p = s.1) (hs : s.2 < 0) (hm : isM X.l s.1 kDef = true) :
    ∃ (f' : Nat) (pa t k : Fo × Sd), f = f' + 1 ∧ paramsM X.l f' (wordS X (s.1 + 1, s.2)).2 (wordS X (s.1 + 1, s.2)).1 = some pa ∧ typedM X.l f' pa.2.2 pa.2.1 = some t ∧ exM X.l f' .block t.2.2 t.2.1 = some k ∧
      r = (.one { (wordM X.l s.2 ⟨3, p, 0, e0, 0⟩ (s.1 + 1)).1 with til := k.2.1 } (pa.1.app (t.1.app k.1)), k.2) := by
  unfold itemM at h
  rw [if_neg (by rw [isM_ne hm (by decide)]; simp)] at h
  unfold defM at h
  have hw : wantM X.l s.2 s.1 kDef = (s.1 + 1, s.2) := by unfold wantM; rw [if_neg (by omega), if_pos hm]
  dsimp only at h
  rw [hw] at h
  dsimp only at h
  obtain ⟨x, hx, h⟩ := Option.bind_eq_some_iff.1 h
  injection h with h
  obtain ⟨f', pa, t, k, e1, e2, e3, e4, e5⟩ := lam_parts hx
  rw [wordM_snd s.2 ⟨3, s.1, 0, e0, 0⟩ ⟨0, 0, 0, e0, 0⟩ (s.1 + 1)] at e2
  exact ⟨f', pa, t, k, e1, e2, e3, e4, by rw [← h, e5, hp]⟩
theorem it_no {l : List Tok} {f : Nat} {s : Sd} {r : Fo × Sd} (h : itemM l f s = some r) (hs : s.2 < 0) (h1 : isM l s.1 kUse = false) (h2 : isM l s.1 kDef = false) : r.2.2 = (failS s).2 := by
  unfold itemM at h
  rw [if_neg (by rw [h1]; simp)] at h
  unfold defM at h
  have hw : wantM l s.2 s.1 kDef = (s.1, (s.1 : Int)) := by unfold wantM; rw [if_neg (by omega), if_neg (by rw [h2]; simp)]
  dsimp only at h
  rw [hw] at h
  have hpos : (0 : Int) ≤ (s.1 : Int) := by omega
  dsimp only at h
  rw [wordM_bad hpos] at h
  obtain ⟨x, hx, h⟩ := Option.bind_eq_some_iff.1 h
  injection h with h
  dsimp only at hx
  rw [← h]
  dsimp only
  rw [lam_bad hpos hx]
  unfold failS
  rw [if_neg (by omega)]
set_option maxHeartbeats 4000000 in
theorem use_q (X : Cx) (fr : Nat) (s : Sd) (w : World) (r : Fo × Sd) (hfr : s.1 = fr + 1) (hr : r = useM X.l s.2 fr) (hS : PSt X w s) : Calls Tryz.prog 97 #[X.p, .int .i64 fr] w (NodeQ X w r) := by
  have L0 := Lib.hid ((LS.start hS).alloc w.heap.size rfl 25 zcc)
  have hrb := hS.lt
  have hl := hS.len
  have hwl := wat_lt hS
  obtain ⟨s2, hs2⟩ : ∃ s2, s2 = wantS X (wordS X s) sDot := ⟨_, rfl⟩
  obtain ⟨s4, hs4⟩ : ∃ s4, s4 = wantS X (wordS X s2) sSem := ⟨_, rfl⟩
  have e1 : (wordM X.l s.2 ⟨23, fr + 1, 0, e0, 0⟩ (fr + 1)).2 = wordS X s := by rw [← hfr]; exact wordM_snd _ _ _ _
  have e2 : (wordM X.l s2.2 ⟨2, fr, 0, e0, 0⟩ s2.1).2 = wordS X s2 := wordM_snd _ _ _ _
  have hr' : r = (.one { (wordM X.l s2.2 ⟨2, fr, 0, e0, 0⟩ s2.1).1 with til := s4.1 } (.one { (wordM X.l s.2 ⟨23, fr + 1, 0, e0, 0⟩ (fr + 1)).1 with til := (wordS X s).1 } .nil), s4) := by
    rw [hr]
    unfold useM
    dsimp only
    rw [e1]
    have : wantM X.l (wordS X s).2 (wordS X s).1 sDot = s2 := hs2.symm
    rw [this, e2]
    have : wantM X.l (wordS X s2).2 (wordS X s2).1 sSem = s4 := hs4.symm
    rw [this]
  have hgg : s4.2 < 0 → r = (.one ⟨2, fr, s4.1, textAt X.l (wat X s2), wat X s2⟩ (.one ⟨23, wat X s, pos X (wordS X s), textAt X.l (wat X s), wat X s⟩ .nil), s4) := fun h => by
    have h4 := h
    rw [hs4] at h4
    have g3 := (wantS_good h4).1
    obtain ⟨y1, y2, y3, y4⟩ := wordS_good g3
    rw [hs2] at y1
    have g1 := (wantS_good y1).1
    obtain ⟨z1, z2, z3, z4⟩ := wordS_good g1
    rw [hr', y4, y2, ← hfr, z4, z2, pos_good g1]
  have hB : 0 ≤ s4.2 → r.2.2 = s4.2 := fun h => by rw [hr']
  have HGG := Lib.hid hgg
  have HB := Lib.hid hB
  have HS2 := Lib.hid hs2
  have HS4 := Lib.hid hs4
  have HWL2 : Hid (∀ w', PSt X w' s2 → wat X s2 < X.l.length) := fun w' h => wat_lt h
  have CWW := Lib.hid (word_any X s _ L0.out.st)
  have CW2 := Lib.hid (fun w' h => word_any X s2 w' h)
  clear hr hr' hgg hB hs2 hs4 e1 e2 hS hfr
  generalize wat X s = q at *
  generalize wat X s2 = q2 at *
  generalize wordS X s = sw at *
  generalize wordS X s2 = sw2 at *
  obtain ⟨pw, hpw⟩ : ∃ pw, pw = pos X sw := ⟨_, rfl⟩
  rw [← hpw] at HGG
  have HPW := Lib.hid hpw
  clear hpw
  go_enter Tryz.func97, Tryz.ntmps97
  go_wp2_with fail
  refine CWW.out.mono ?_
  rintro e w1 ⟨rfl, hSw, hFw⟩
  have L1 := Lib.hid (L0.out.step hSw hFw)
  clear hSw hFw CWW
  go_wp2_with fail
  refine (named_any X sw 23 q q none 0 0 _ L1.out.st hwl).mono ?_
  rw [← HPW.out]
  rintro e w2 ⟨rfl, hbw⟩
  have L2 := Lib.hid ((L1.out.other hbw).alloc w2.heap.size rfl 25 (ncc ⟨23, q, pw, textAt X.l q, q⟩ none 0 0))
  clear hbw L1
  have CW := Lib.hid (want_any X sw ⟨#[46]⟩ _ L2.out.st (by decide))
  go_wp2_with fail
  refine CW.out.mono ?_
  rintro e w3 ⟨rfl, hSw, hFw⟩
  have L3a := Lib.hid (L2.out.step hSw hFw)
  clear hSw hFw CW
  have L3 : Hid (LS X w w3 s2 [(w2.heap.size, 25, ncc ⟨23, q, pw, textAt X.l q, q⟩ none 0 0), (w.heap.size, 25, zcc)] [] (.slice none 0 0) .nil) := by unfold Hid; rw [HS2.out]; exact L3a.out
  clear L3a HS2
  go_wp2_with fail
  refine (CW2.out _ L3.out.st).mono ?_
  rintro e w4 ⟨rfl, hSw, hFw⟩
  have hwl2 := HWL2.out _ L3.out.st
  have L4 := Lib.hid (L3.out.step hSw hFw)
  clear hSw hFw CW2
  have CW := Lib.hid (want_any X sw2 ⟨#[59]⟩ _ L4.out.st (by decide))
  go_wp2_with fail
  refine CW.out.mono ?_
  rintro e w5 ⟨rfl, hSw, hFw⟩
  have L5a := Lib.hid (L4.out.step hSw hFw)
  clear hSw hFw CW
  have L5 : Hid (LS X w w5 s4 [(w2.heap.size, 25, ncc ⟨23, q, pw, textAt X.l q, q⟩ none 0 0), (w.heap.size, 25, zcc)] [] (.slice none 0 0) .nil) := by unfold Hid; rw [HS4.out]; exact L5a.out
  clear L5a HS4
  have n1 := (L5.out.row 0 rfl).cell
  have LE := Lib.hid (L5.out.slice w5.heap.size rfl (k := .one ⟨23, q, pw, textAt X.l q, q⟩ .nil) (cs := ncc ⟨23, q, pw, textAt X.l q, q⟩ none 0 0) (FC.one (KV.nil _ _ _ _)))
  have HR : Hid (s4.2 < 0 → r = (.one ⟨2, fr, pos X s4, textAt X.l q2, q2⟩ (.one ⟨23, q, pw, textAt X.l q, q⟩ .nil), s4)) := fun h => by rw [HGG.out h, pos_good h]
  clear HGG HPW HWL2
  go_wp2_with fail
  refine (named_any X s4 2 fr q2 (some ⟨w5.heap.size, 0, none⟩) 1 1 _ LE.out.st hwl2).mono ?_
  rintro e wf ⟨rfl, hbw⟩
  have LFb := Lib.hid (LE.out.other hbw)
  have u1 := (LFb.out.row 1 rfl).cell
  have u2 := (LFb.out.row 1 rfl).thaw
  have LF := Lib.hid (LFb.out.put6 1 rfl rfl (.int .i64 2) (.int .i64 fr) (.int .i64 (pos X s4)) (.string (textAt X.l q2)) (.int .i64 q2) (.slice (some ⟨w5.heap.size, 0, none⟩) 1 1))
  clear hbw
  go_wp2
  refine bodyPost_ret ?_ rfl ⟨⟨2, fr, pos X s4, textAt X.l q2, q2⟩, (.one ⟨23, q, pw, textAt X.l q, q⟩ .nil), some ⟨w5.heap.size, 0, none⟩, 1, rfl, (LF.out.kidP 0 rfl).new_ (fun g h => h.1), PSt.to LF.out.st (fun h => by rw [HR.out h]) HB.out, LF.out.fr, ?_⟩
  · simp [results, Tryz.results97, go_sem, u1]
    try first | rfl | exact ⟨rfl, rfl⟩
  · intro hh
    rw [HR.out (by by_cases h : (s4 : Sd).2 < 0; exact h; rw [HB.out (by omega)] at hh; exact absurd hh h)]
set_option maxHeartbeats 8000000 in
theorem item_q (X : Cx) (P : Prop) (f : Nat) (IP : ∀ f', f' ≤ f → RuleQ X P (parmR X f') 100) (IW : ∀ f', f' ≤ f → RuleQ X P (wrtR X f') 101) (IB : ∀ f', f' ≤ f → RuleQ X P (exR X f' .block) 102) (s : Sd) (w : World) (r : Fo × Sd) (hP : P) (hs : s.2 < 0) (hh : itemM X.l f s = some r) (hS : PSt X w s) :
    Calls Tryz.prog 66 #[X.p] w (NodeQ X w r) := by
  have L0 := Lib.hid ((LS.start hS).alloc w.heap.size rfl 25 zcc)
  have rr := hS.row.cell
  have hrb := hS.lt
  have hl := hS.len
  have hpl := hS.pos_lt
  have hp : pos X s = s.1 := pos_good hs
  rw [hp] at rr hpl
  obtain ⟨p, hpp⟩ : ∃ p, p = s.1 := ⟨_, rfl⟩
  rw [← hpp] at rr hpl
  have HP := Lib.hid hpp
  have HH := Lib.hid hh
  have HS := Lib.hid hs
  have IP := Lib.hid IP
  have IW := Lib.hid IW
  have IB := Lib.hid IB
  clear hp hpp hh hS hs
  go_enter Tryz.func66, Tryz.ntmps66
  cases q1 : tk X s kUse
  · have CT := Lib.hid (take_no X s ⟨#[117, 115, 101]⟩ _ L0.out.st (by decide) q1)
    go_wp2_with fail
    refine CT.out.mono ?_
    rintro e w1 ⟨rfl, hSw, hFw⟩
    have L1 := Lib.hid (L0.out.step hSw hFw)
    clear hSw hFw CT
    have Q1 := Lib.hid (tk_bad q1)
    clear q1
    cases q2 : tk X s kDef
    · have CT := Lib.hid (take_no X s ⟨#[100, 101, 102]⟩ _ L1.out.st (by decide) q2)
      go_wp2_with fail
      refine CT.out.mono ?_
      rintro e w2 ⟨rfl, hSw, hFw⟩
      have L2 := Lib.hid (L1.out.step hSw hFw)
      clear hSw hFw CT
      have Q2 := Lib.hid (tk_bad q2)
      clear q2
      have HFAIL : Hid (r.2.2 = (failS s).2) := it_no HH.out HS.out (Q1.out.resolve_left (by have := HS.out; omega)) (Q2.out.resolve_left (by have := HS.out; omega))
      clear Q1 Q2 HH HS HP IP IB IW
      have CF := Lib.hid (fail_any X s _ L2.out.st)
      go_wp2_with fail
      refine CF.out.mono ?_
      rintro e wz ⟨rfl, hSw, hFw⟩
      have LYb := Lib.hid (L2.out.step hSw hFw)
      have u1 := (LYb.out.row 0 rfl).cell
      have u2 := (LYb.out.row 0 rfl).thaw
      have LY := Lib.hid (LYb.out.put6 0 rfl rfl (.int .i64 0) (.int .i64 0) (.int .i64 0) (.string ⟨#[]⟩) (.int .i64 0) (.slice none 0 0))
      clear hSw hFw CF
      go_wp2
      refine bodyPost_ret ?_ rfl ⟨⟨0, 0, 0, e0, 0⟩, .nil, none, 0, rfl, KV.nil _ _ _ _, PSt.to LY.out.st (fun h => absurd h (by have := failS_bad s; omega)) (fun _ => HFAIL.out), LY.out.fr, ?_⟩
      · simp [results, Tryz.results66, go_sem, u1]
        try first | rfl | exact ⟨rfl, rfl⟩
      · intro hh
        rw [HFAIL.out] at hh
        exact absurd hh (by have := failS_bad s; omega)
    · obtain ⟨hg, hm⟩ := tk_good q2
      obtain ⟨f', pa, ty, bk, hf', hpa, hty, hbk, hr⟩ := it_def HH.out HP.out hg hm
      obtain ⟨s1, hs1⟩ : ∃ s1 : Sd, s1 = (s.1 + 1, s.2) := ⟨_, rfl⟩
      rw [← hs1] at hpa
      have CWW := Lib.hid (fun w' h => word_any X s1 w' h)
      have HWL : Hid (∀ w', PSt X w' s1 → wat X s1 < X.l.length) := fun w' h => wat_lt h
      have C1 : Hid (∀ w', PSt X w' (wordS X s1) → Calls Tryz.prog 100 #[X.p] w' (NodeQ X w' pa)) := fun w' h => IP.out f' (by omega) (wordS X s1) w' pa (fun _ => ⟨hP, hpa⟩) (fun h => paramsM_bad h hpa) h
      have C2 : Hid (∀ w', PSt X w' pa.2 → Calls Tryz.prog 101 #[X.p] w' (NodeQ X w' ty)) := fun w' h => IW.out f' (by omega) pa.2 w' ty (fun _ => ⟨hP, hty⟩) (fun h => typedM_bad h hty) h
      have C3 : Hid (∀ w', PSt X w' ty.2 → Calls Tryz.prog 102 #[X.p] w' (NodeQ X w' bk)) := fun w' h => IB.out f' (by omega) ty.2 w' bk (fun _ => ⟨hP, hbk⟩) (fun h => exM_bad _ _ _ _ _ h hbk) h
      have HG3 : Hid (bk.2.2 < 0 → ty.2.2 < 0 ∧ pa.2.2 < 0 ∧ r = (.one ⟨3, p, bk.2.1, textAt X.l (wat X s1), wat X s1⟩ (pa.1.app (ty.1.app bk.1)), bk.2)) := fun h => by
        have g2 : ty.2.2 < 0 := exM_was hbk h
        have g1 : pa.2.2 < 0 := by
          by_cases hh : 0 ≤ pa.2.2
          · have := typedM_bad hh hty; omega
          · omega
        have g0 : (wordS X s1).2 < 0 := by
          by_cases hh : 0 ≤ (wordS X s1).2
          · have := paramsM_bad hh hpa; omega
          · omega
        obtain ⟨y1, y2, y3, y4⟩ := wordS_good g0
        have y5 := y4 ⟨3, p, 0, e0, 0⟩
        rw [hs1] at y5
        refine ⟨g2, g1, ?_⟩
        rw [hr, y5, y2, hs1]
      have HB : Hid (0 ≤ bk.2.2 → r.2.2 = bk.2.2) := fun h => by rw [hr]
      clear hm hf' hpa hty hbk hr hg
      have CT := Lib.hid (take_yes X s ⟨#[100, 101, 102]⟩ _ L1.out.st (by decide) q2)
      go_wp2_with fail
      refine CT.out.mono ?_
      rintro e wa ⟨rfl, hSw, hFw⟩
      have LA0 := Lib.hid (L1.out.step hSw hFw)
      clear hSw hFw CT
      have LA : Hid (LS X w wa s1 [(w.heap.size, 25, zcc)] [] (.slice none 0 0) .nil) := by unfold Hid; rw [hs1]; exact LA0.out
      have hwl := HWL.out _ LA.out.st
      clear q2 HH HS HP IP IB IW hs1 LA0 HWL
      generalize wat X s1 = q at *
      generalize wordS X s1 = sw at *
      go_wp2_with fail
      refine (CWW.out _ LA.out.st).mono ?_
      rintro e wa2 ⟨rfl, hSw, hFw⟩
      have LA2 := Lib.hid (LA.out.step hSw hFw)
      clear hSw hFw CWW
      go_wp2_with fail
      refine (C1.out _ LA2.out.st).mono ?_
      rintro e wb ⟨h1, k1, A1, c1, rfl, hKw, hSw, hFw, hN1⟩
      obtain ⟨x11, x12, x13, x14, x15⟩ := h1
      have LB := Lib.hid (LA2.out.kid hSw hFw hKw)
      have HN1 := Lib.hid hN1
      clear hSw hFw hKw hN1
      go_wp2_with fail
      refine (C2.out _ LB.out.st).mono ?_
      rintro e wc ⟨h2, k2, A2, c2, rfl, hKw, hSw, hFw, hN2⟩
      obtain ⟨x21, x22, x23, x24, x25⟩ := h2
      have LC := Lib.hid (LB.out.kid hSw hFw hKw)
      have HN2 := Lib.hid hN2
      clear hSw hFw hKw hN2
      go_wp2_with fail
      refine (C3.out _ LC.out.st).mono ?_
      rintro e wd ⟨h3, k3, A3, c3, rfl, hKw, hSw, hFw, hN3⟩
      obtain ⟨x31, x32, x33, x34, x35⟩ := h3
      have LD := Lib.hid (LC.out.kid hSw hFw hKw)
      have HN3 := Lib.hid hN3
      clear hSw hFw hKw hN3
      have LE := Lib.hid (LD.out.slice wd.heap.size rfl (KV.three (h1 := ⟨x11, x12, x13, x14, x15⟩) (h2 := ⟨x21, x22, x23, x24, x25⟩) (h3 := ⟨x31, x32, x33, x34, x35⟩) (LD.out.kidP 2 rfl) (LD.out.kidP 1 rfl) (LD.out.kidP 0 rfl)))
      have HR : Hid (bk.2.2 < 0 → r = (.one ⟨3, p, pos X bk.2, textAt X.l q, q⟩ ((Fo.one ⟨x11, x12, x13, x14, x15⟩ k1).app ((Fo.one ⟨x21, x22, x23, x24, x25⟩ k2).app (.one ⟨x31, x32, x33, x34, x35⟩ k3))), bk.2)) := fun h => by
        obtain ⟨g2, g1, g0⟩ := HG3.out h
        rw [g0, HN1.out g1, HN2.out g2, HN3.out h, pos_good h]
      clear C1 C2 C3 HG3 HN1 HN2 HN3
      go_wp2_with fail
      refine (named_any X bk.2 3 p q (some ⟨wd.heap.size, 0, none⟩) 3 3 _ LE.out.st hwl).mono ?_
      rintro e wf ⟨rfl, hbw⟩
      have LFb := Lib.hid (LE.out.other hbw)
      have u1 := (LFb.out.row 0 rfl).cell
      have u2 := (LFb.out.row 0 rfl).thaw
      have LF := Lib.hid (LFb.out.put6 0 rfl rfl (.int .i64 3) (.int .i64 p) (.int .i64 (pos X bk.2)) (.string (textAt X.l q)) (.int .i64 q) (.slice (some ⟨wd.heap.size, 0, none⟩) 3 3))
      clear hbw
      go_wp2
      refine bodyPost_ret ?_ rfl ⟨⟨3, p, pos X bk.2, textAt X.l q, q⟩, ((Fo.one ⟨x11, x12, x13, x14, x15⟩ k1).app ((Fo.one ⟨x21, x22, x23, x24, x25⟩ k2).app (.one ⟨x31, x32, x33, x34, x35⟩ k3))), some ⟨wd.heap.size, 0, none⟩, 3, rfl, (LF.out.kidP 0 rfl).new_ (fun g h => h.1), PSt.to LF.out.st (fun h => by rw [HR.out h]) HB.out, LF.out.fr, ?_⟩
      · simp [results, Tryz.results66, go_sem, u1]
        try first | rfl | exact ⟨rfl, rfl⟩
      · intro hh
        rw [HR.out (by by_cases h : (bk.2 : Sd).2 < 0; exact h; rw [HB.out (by omega)] at hh; exact absurd hh h)]
  · obtain ⟨hg, hm⟩ := tk_good q1
    have hr := it_use HH.out hm
    have CC : Hid (∀ w', PSt X w' (s.1 + 1, s.2) → Calls Tryz.prog 97 #[X.p, .int .i64 p] w' (NodeQ X w' r)) := fun w' h => use_q X p (s.1 + 1, s.2) w' r (by rw [HP.out]) (by rw [HP.out]; exact hr) h
    clear hg hm hr
    have CT := Lib.hid (take_yes X s ⟨#[117, 115, 101]⟩ _ L0.out.st (by decide) q1)
    go_wp2_with fail
    refine CT.out.mono ?_
    rintro e wa ⟨rfl, hSw, hFw⟩
    have LA := Lib.hid (L0.out.step hSw hFw)
    clear hSw hFw CT
    clear q1 HH HS HP IP IB IW
    go_wp2_with fail
    refine (CC.out _ LA.out.st).mono ?_
    rintro e wb ⟨h1, k1, A1, c1, rfl, hKw, hSw, hFw, hN1⟩
    obtain ⟨x11, x12, x13, x14, x15⟩ := h1
    have LX := Lib.hid (LA.out.kid hSw hFw hKw)
    have HN1 := Lib.hid hN1
    clear hSw hFw hKw hN1
    have u1 := (LX.out.row 0 rfl).cell
    have u2 := (LX.out.row 0 rfl).thaw
    have LY := Lib.hid (LX.out.put6 0 rfl rfl (.int .i64 x11) (.int .i64 x12) (.int .i64 x13) (.string x14) (.int .i64 x15) (.slice A1 k1.len c1))
    go_wp2
    refine bodyPost_ret ?_ rfl ⟨⟨x11, x12, x13, x14, x15⟩, k1, A1, c1, rfl, (LY.out.kidP 0 rfl).new_ (fun g h => h.1), LY.out.st, LY.out.fr, HN1.out⟩
    simp [results, Tryz.results66, go_sem, u1]
    try first | rfl | exact ⟨rfl, rfl⟩
set_option maxHeartbeats 8000000 in
theorem file_q (X : Cx) (P : Prop) (f : Nat) (hf : f ≤ 1000000) (I : ∀ f', f' ≤ f → ∀ (s : Sd) (w : World) (r : Fo × Sd), P → s.2 < 0 → itemM X.l f' s = some r → PSt X w s → Calls Tryz.prog 66 #[X.p] w (NodeQ X w r)) : RuleQ X P (fileR X f) 44 := by
  intro s w r hr1 hr2 hS
  have INV0 := Lib.hid (file_pure hr1 hr2)
  have L0 := Lib.hid ((LS.start hS).alloc w.heap.size rfl 25 zcc)
  have hrb := hS.lt
  have hl := hS.len
  have HI := Lib.hid I
  clear hr1 hr2 hS I
  go_enter Tryz.func44, Tryz.ntmps44
  go_wp2_with fail
  go_loopg [3] (f + 1) (fun kx s3 wr => ∃ (fk : Nat) (sk : Sd) (K : Fo) (u : Value), u = s3 ∧ fk ≤ kx ∧ K.len + fk ≤ f ∧ Hid (InvF X P r fk sk K) ∧ Hid (LS X w wr sk [(w.heap.size, 25, zcc)] [] s3 K))
  case atStart => exact ⟨f, s, .nil, _, rfl, by omega, by simp [Fo.len], INV0.out, L0.out⟩
  case round =>
    obtain ⟨fk, sk, K, u, rfl, hkx, hlen, HG, LK⟩ := hrel
    clear INV0 L0
    have rk := LK.out.st.row.cell
    have CE : ∀ n, Calls Tryz.prog 64 #[X.p] (wr.drewN n) fun e w' => e = .returned (.int .i64 (lastI X : Int)) ∧ ∃ m, w' = (wr.drewN n).drewN m := fun n => end_q X sk _ (LK.out.st.below (below_drewN (Below.refl _ _) n))
    have CEH := Lib.hid CE
    have HLA := Lib.hid LK.out.st.last
    have HPO : Hid (¬ pos X sk + 1 < X.l.length → sk.2 < 0 → kindAt X.l sk.1 = 0) := fun h h2 => by
      by_cases hk : kindAt X.l sk.1 = 0
      · exact hk
      · have := kindAt_next LK.out.st.wf.toWf hk
        rw [pos_good h2] at h
        omega
    have HPG : Hid (pos X sk + 1 < X.l.length → sk.2 < 0 ∧ kindAt X.l sk.1 ≠ 0) := fun h => by
      obtain ⟨h1, h2⟩ := PSt.pos_on LK.out.st h
      rw [h2] at h
      refine ⟨h1, ?_⟩
      rw [kindAt_get (by omega)]
      exact LK.out.st.wf.conv _ (by omega) h
    have hrk := LK.out.st.lt
    have hplk := LK.out.st.pos_lt
    clear CE
    by_cases hp : pos X sk + 1 < X.l.length
    · obtain ⟨hs, hm⟩ := HPG.out hp
      obtain ⟨f', t, e1, hP, ht, hI⟩ := HG.out.go hs hm
      have hd : decide (((pos X sk : Nat) : Int) < (lastI X : Int)) = true := decide_eq_true (by have := HLA.out; omega)
      have hd2 : decide (pos X sk < lastI X) = true := decide_eq_true (by have := HLA.out; omega)
      have C2 : Hid (∀ w', PSt X w' sk → Calls Tryz.prog 66 #[X.p] w' (NodeQ X w' t)) := fun w' h => HI.out f' (by omega) sk w' t hP hs ht h
      have HINV2 := Lib.hid hI
      have HF := Lib.hid e1
      clear hs hm hP ht hI e1 HG HPO HPG HLA hp
      generalize pos X sk = pk at *
      go_wp2_with fail
      go_quiet (first
        | (go_at_call 64; exact Calls.quiet_of (CEH.out _)))
      rename_i nq
      have L4 := Lib.hid (LK.out.other (below_drewN (Below.refl _ _) nq))
      clear rk CEH
      go_wp2_with fail
      refine (C2.out _ L4.out.st).mono ?_
      rintro e w5 ⟨h5, k5, A5, c5, rfl, hK5, hS5, hF5, hN5⟩
      have INV := Lib.hid (HINV2.out h5 k5 hN5)
      obtain ⟨z1, z2, z3, z4, z5⟩ := h5
      have M6 := Lib.hid ((L4.out.kid hS5 hF5 hK5).other (bel1 _ (.cells (ncc ⟨z1, z2, z3, z4, z5⟩ A5 k5.len c5) 25)))
      obtain ⟨cs, o1, o2⟩ := M6.out.own
      have O1 := Lib.hid o1
      have O2 := Lib.hid o2
      obtain ⟨AK, cK, eK, hcK, _⟩ := M6.out.list
      subst eK
      obtain ⟨i0, hi0, hz0, hz1, hz2⟩ := info_parts info25
      have b5 := Lib.hid M6.out.size
      have b3' : K.len + 1 ≤ maxLen := by unfold maxLen; omega
      have b4' : (K.len + 1) * 72 ≤ 140737488355328 := by omega
      have CN := Lib.hid (cells_nd w5 (.int .i64 z1) (.int .i64 z2) (.int .i64 z3) (.string z4) (.int .i64 z5) (.slice A5 k5.len c5))
      clear o1 o2 hK5 hS5 hF5 hN5 HINV2 C2 L4
      go_wp2_with (at_builtin; refine wpList_append_at rfl (.tmp 11) (.tmp 14) 23 rfl w.heap.size 25 i0 (.agg #[.int .i64 0, .int .i64 0, .int .i64 0, .string ⟨#[]⟩, .int .i64 0, .slice none 0 0]) 6 72 Tryz.underlying23 hi0 hz0 hz1 hz2 rfl (by decide) _ K.len cs rfl O1.out ⟨w5.heap.size, 0, none⟩ 1 1 [.int .i64 z1, .int .i64 z2, .int .i64 z3, .string z4, .int .i64 z5, .slice A5 k5.len c5] rfl rfl (by simpa using CN.out) (one_nd ⟨z1, z2, z3, z4, z5⟩ _ _ _) b3' b4' b5.out ?_)
      intro v' w7 hown' hgrow hat
      have M7 := Lib.hid (M6.out.push ⟨O1.out, O2.out⟩ (k := .one ⟨z1, z2, z3, z4, z5⟩ k5) (FC.one (M6.out.kidP 0 rfl)) hown' hgrow (fun j hj => by
        rcases hat j hj with h | h
        · exact .inl h
        · exact .inr (by simpa using h))).noK
      have hKl : (K.app (.one ⟨z1, z2, z3, z4, z5⟩ k5)).len = K.len + 1 := by rw [Fo.len_app]; rfl
      have HKL := Lib.hid hKl
      have hf1 := HF.out
      clear hown' hgrow hat b3' b4' b5 CN O1 O2 M6 hKl
      go_wp2_with fail
      go_roundg f'
      case measure => omega
      case rel => exact ⟨f', t.2, K.app (.one ⟨z1, z2, z3, z4, z5⟩ k5), _, rfl, by omega, by rw [HKL.out]; omega, INV.out, M7.out⟩
    · have hd : decide (((pos X sk : Nat) : Int) < (lastI X : Int)) = false := decide_eq_false (by have := HLA.out; omega)
      have hd2 : decide (pos X sk < lastI X) = false := decide_eq_false (by have := HLA.out; omega)
      have HSTOP : Hid (sk.2 < 0 → r = (.one ⟨1, 0, sk.1, e0, 0⟩ K, sk)) := fun h => HG.out.stop h (HPO.out hp h)
      have HB := Lib.hid HG.out.2
      have HPK : Hid (sk.2 < 0 → pos X sk = sk.1) := fun h => pos_good h
      clear HG HPO HPG HLA hp
      obtain ⟨pk, hpk⟩ : ∃ pk, pk = pos X sk := ⟨_, rfl⟩
      have HPE := Lib.hid hpk
      rw [← hpk] at rk hd hd2 hplk HPK
      clear hpk
      go_wp2_with fail
      go_quiet (first
        | (go_at_call 64; exact Calls.quiet_of (CEH.out _)))
      rename_i nq
      have L4 := Lib.hid (LK.out.other (below_drewN (Below.refl _ _) nq))
      clear rk CEH
      obtain ⟨A, cap, hv, hcap, _⟩ := L4.out.list
      subst hv
      have LD := Lib.hid L4.out.toKid
      have HR : Hid (sk.2 < 0 → r = (.one ⟨1, 0, pos X sk, e0, 0⟩ K, sk)) := fun h => by rw [HSTOP.out h, ← HPE.out, HPK.out h]
      clear L4 LK HPK HPE HSTOP
      go_wp2_with fail
      refine (node_any X sk 1 0 (A) K.len cap _ LD.out.st).mono ?_
      rintro e wd ⟨rfl, hbw⟩
      have LEb := Lib.hid (LD.out.other hbw)
      have u1 := (LEb.out.row 0 rfl).cell
      have u2 := (LEb.out.row 0 rfl).thaw
      have LE := Lib.hid (LEb.out.put6 0 rfl rfl (.int .i64 1) (.int .i64 0) (.int .i64 (pos X sk)) (.string e0) (.int .i64 0) (.slice (A) K.len cap))
      clear hbw
      go_wp2
      refine bodyPost_ret ?_ rfl ⟨⟨1, 0, pos X sk, e0, 0⟩, K, A, cap, rfl, (LE.out.kidP 0 rfl).new_ (fun g h => h.1), PSt.to LE.out.st (fun h => by rw [HR.out h]) HB.out, LE.out.fr, ?_⟩
      · simp [results, Tryz.results44, go_sem, u1]
        try first | rfl | exact ⟨rfl, rfl⟩
      · intro hh
        rw [HR.out (by by_cases h : (sk : Sd).2 < 0; exact h; rw [HB.out (by omega)] at hh; exact absurd hh h)]
end Pg
end Go.Proofs.YtiabkkdeonepgaaGreatDoor
namespace Go.Proofs.YtiabkkdeonepgaaGreatDoor
open Go.RowKit
namespace Pg
open Ps
theorem RuleQ.any {X : Cx} {M M' : Sd → Res} {fn : Nat} (h : RuleQ X False M fn) : RuleQ X False M' fn := fun s w r h1 h2 hS => h s w r (fun hs => absurd (h1 hs).1 id) h2 hS
theorem RuleQ.no0 {X : Cx} {P : Prop} {M M' : Sd → Res} {fn : Nat} (h : RuleQ X False M fn) (hM : ∀ s, M' s = Option.none) : RuleQ X P M' fn := fun s w r h1 h2 hS => h s w r (fun hs => by have := (h1 hs).2; rw [hM] at this; cases this) h2 hS
theorem ty_f (X : Cx) {M : Sd → Res} : RuleQ X False M 121 := (typed_q X False 0 (by omega) (fun h => h.elim)).any
theorem ty_all (X : Cx) : ∀ f, f ≤ 1000000 → RuleQ X True (tyR X f) 121 := by
  intro f
  induction f using Nat.strongRecOn with
  | _ f ih =>
    intro hf
    cases f with
    | zero => exact (ty_f X (M := fun _ => Option.none)).no0 (fun s => by unfold tyR; rw [tyM])
    | succ f => exact typed_q X True f (by omega) (fun _ f' h => ih f' (by omega) (by omega))
theorem wrt_all (X : Cx) (f : Nat) (hf : f ≤ 1000000) : RuleQ X True (wrtR X f) 101 := written_q X True f (ty_all X f hf)
theorem params_all (X : Cx) (f : Nat) (hf : f ≤ 1000000) : RuleQ X True (parmR X f) 100 := params_q X True f hf (fun f' h => param_q X True f' (wrt_all X f' (by omega)))
theorem atom_f (X : Cx) {M : Sd → Res} : RuleQ X False M 162 := (atom_q X False 0 (by omega) (fun h => h.elim) (fun h => h.elim) (fun h => h.elim) (fun h => h.elim)).any
theorem post_f (X : Cx) {M : Sd → Res} : RuleQ X False M 159 := (post_q X False 0 (by omega) (fun _ _ => atom_f X) (fun h => h.elim)).any
theorem term_f (X : Cx) {M : Sd → Res} : RuleQ X False M 156 := (term_q X False 0 (fun _ _ => post_f X)).any
theorem sum_f (X : Cx) {M : Sd → Res} : RuleQ X False M 149 := (sum_q X False 0 (fun _ _ => term_f X)).any
theorem expr_f (X : Cx) {M : Sd → Res} : RuleQ X False M 136 := (expr_q X False 0 (sum_f X)).any
theorem block_f (X : Cx) {M : Sd → Res} : RuleQ X False M 102 := (block_q X False 0 (by omega) (fun f' h => absurd h (by omega))).any
theorem exR_zero (X : Cx) (t : XT) (s : Sd) : exR X 0 t s = Option.none := by unfold exR; rw [exM]
structure AllQ (X : Cx) (f : Nat) : Prop where
  ex : RuleQ X True (exR X f .expr) 136
  su : RuleQ X True (exR X f .sum) 149
  te : RuleQ X True (exR X f .term) 156
  po : RuleQ X True (exR X f .post) 159
  at_ : RuleQ X True (exR X f .atom) 162
  bl : RuleQ X True (exR X f .block) 102
theorem all_q (X : Cx) : ∀ f, f ≤ 1000000 → AllQ X f := by
  intro f
  induction f using Nat.strongRecOn with
  | _ f ih =>
    intro hf
    cases f with
    | zero =>
      exact ⟨(expr_f X (M := fun _ => Option.none)).no0 (exR_zero X _), (sum_f X (M := fun _ => Option.none)).no0 (exR_zero X _), (term_f X (M := fun _ => Option.none)).no0 (exR_zero X _), (post_f X (M := fun _ => Option.none)).no0 (exR_zero X _), (atom_f X (M := fun _ => Option.none)).no0 (exR_zero X _), (block_f X (M := fun _ => Option.none)).no0 (exR_zero X _)⟩
    | succ f =>
      have I := fun f' (h : f' ≤ f) => ih f' (by omega) (by omega)
      exact ⟨expr_q X True f (I f (Nat.le_refl _)).su, sum_q X True f (fun f' h => (I f' h).te), term_q X True f (fun f' h => (I f' h).po), post_q X True f (by omega) (fun f' h => (I f' h).at_) (fun _ f' h => (I f' h).ex),
        atom_q X True f (by omega) (fun _ f' h => (I f' h).ex) (fun _ f' h => params_all X f' (by omega)) (fun _ f' h => wrt_all X f' (by omega)) (fun _ f' h => (I f' h).bl),
        block_q X True f (by omega) (fun f' h s w r hP hs hh hS => stmt_q X True f' (I f' (by omega)).ex (I f' (by omega)).bl (wrt_all X f' (by omega)) s w r hP hs hh hS)⟩
theorem file_all (X : Cx) (f : Nat) (hf : f ≤ 1000000) : RuleQ X True (fileR X f) 44 := file_q X True f hf (fun f' h s w r hP hs hh hS => item_q X True f' (fun f'' h' => params_all X f'' (by omega)) (fun f'' h' => wrt_all X f'' (by omega)) (fun f'' h' => (all_q X f'' (by omega)).bl) s w r hP hs hh hS)
end Pg
end Go.Proofs.YtiabkkdeonepgaaGreatDoor
