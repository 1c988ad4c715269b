import Derived.Test.YthjflofcgdfekaaGreatDoorMBB
namespace Go.Proofs.YthjflofcgdfekaaGreatDoor
open Go.RowKit
namespace Pg
open Ps
theorem ty_no {l : List Tok} {f : Nat} {b : Int} {i : Nat} {r : Fo × Nat × Int} (h : tyM l (f + 1) .kind b i = some r) (hb : b < 0) (h1 : isM l i kInt = false) (h2 : isM l i kStr = false) (h3 : isM l i kDyn = false) (h4 : isM l i sOpen = false) (h5 : isM l i kFn = false) : r.2.2 = (i : Int) := by
  rw [tyM, if_neg (by omega), if_neg (by rw [h1]; simp), if_neg (by rw [h2]; simp), if_neg (by rw [h3]; simp), if_neg (by rw [h4]; simp)] at h
  have hw : wantM l b i kFn = (i, (i : Int)) := by unfold wantM; rw [if_neg (by omega), if_neg (by rw [h5]; simp)]
  dsimp only at h
  rw [hw] at h
  dsimp only at h
  rw [wantM_bad (by omega)] at h
  obtain ⟨x, hx, h⟩ := Option.bind_eq_some_iff.1 h
  have e1 := tyM_bad (by dsimp only; omega) hx
  dsimp only at e1
  rw [wantM_bad (x := sParS) (b := x.2.2) (by omega), wantM_bad (x := sCol) (by dsimp only; omega)] at h
  obtain ⟨t, ht, h⟩ := Option.bind_eq_some_iff.1 h
  have e2 := tyM_bad (by dsimp only; omega) ht
  injection h with h
  rw [← h]
  dsimp only at e2 ⊢
  omega
theorem ty_plain {l : List Tok} {f : Nat} {b : Int} {i : Nat} {r : Fo × Nat × Int} (h : tyM l (f + 1) .kind b i = some r) (hb : b < 0) (x : List UInt8) (kd : Nat) (hx : x = kInt ∧ kd = 29 ∨ x = kStr ∧ kd = 30 ∨ x = kDyn ∧ kd = 31) (hm : isM l i x = true) : r = (.one ⟨kd, i, i + 1, e0, 0⟩ .nil, i + 1, b) := by
  rw [tyM, if_neg (by omega)] at h
  rcases hx with ⟨rfl, rfl⟩ | ⟨rfl, rfl⟩ | ⟨rfl, rfl⟩
  · rw [if_pos hm] at h; injection h with h; exact h.symm
  · rw [if_neg (by rw [isM_ne hm (by decide)]; simp), if_pos hm] at h; injection h with h; exact h.symm
  · rw [if_neg (by rw [isM_ne hm (by decide)]; simp), if_neg (by rw [isM_ne hm (by decide)]; simp), if_pos hm] at h; injection h with h; exact h.symm
theorem ty_rec {l : List Tok} {f : Nat} {b : Int} {i : Nat} {r : Fo × Nat × Int} (h : tyM l (f + 1) .kind b i = some r) (hb : b < 0) (hm : isM l i sOpen = true) :
    ∃ q, listM l (labR l 33 (fun f => tyM l f .kind)) sShut f true b (i + 1) = some q ∧ r = (.one ⟨32, i, (wantM l q.2.2 q.2.1 sShut).1, e0, 0⟩ q.1, wantM l q.2.2 q.2.1 sShut) := by
  rw [tyM, if_neg (by omega), if_neg (by rw [isM_ne hm (by decide)]; simp), if_neg (by rw [isM_ne hm (by decide)]; simp), if_neg (by rw [isM_ne hm (by decide)]; simp), if_pos hm] at h
  obtain ⟨q, hq, h⟩ := Option.bind_eq_some_iff.1 h
  injection h with h
  exact ⟨q, by rw [← rec_list]; exact hq, h.symm⟩
theorem ty_fn {X : Cx} {f : Nat} {s : Sd} {r : Fo × Sd} (h : tyM X.l (f + 1) .kind s.2 s.1 = some r) (hb : s.2 < 0) (hm : isM X.l s.1 kFn = true) :
    ∃ rl t : Fo × Sd, (∃ q, listM X.l (fun f => tyM X.l f .kind) sParS f true (wantS X (s.1 + 1, s.2) sParO).2 (wantS X (s.1 + 1, s.2) sParO).1 = some q ∧ rl = (q.1, wantM X.l q.2.2 q.2.1 sParS)) ∧ (0 ≤ (wantS X (s.1 + 1, s.2) sParO).2 → rl.2.2 = (wantS X (s.1 + 1, s.2) sParO).2) ∧
      tyM X.l f .kind (wantS X rl.2 sCol).2 (wantS X rl.2 sCol).1 = some t ∧ r = (.one ⟨34, s.1, t.2.1, e0, 0⟩ (rl.1.app t.1), t.2) := by
  have hw : wantM X.l s.2 s.1 kFn = (s.1 + 1, s.2) := by unfold wantM; rw [if_neg (by omega), if_pos hm]
  rw [tyM, if_neg (by omega), if_neg (by rw [isM_ne hm (by decide)]; simp), if_neg (by rw [isM_ne hm (by decide)]; simp), if_neg (by rw [isM_ne hm (by decide)]; simp), if_neg (by rw [isM_ne hm (by decide)]; simp)] at h
  dsimp only at h
  rw [hw] at h
  dsimp only at h
  obtain ⟨q, hq, h⟩ := Option.bind_eq_some_iff.1 h
  obtain ⟨t, ht, h⟩ := Option.bind_eq_some_iff.1 h
  injection h with h
  refine ⟨(q.1, wantM X.l q.2.2 q.2.1 sParS), t, ⟨q, by rw [← fn_list]; exact hq, rfl⟩, fun hh => ?_, ht, h.symm⟩
  have := tyM_bad hh hq
  dsimp only
  rw [wantM_bad (by omega)]
  exact this
abbrev tyR (X : Cx) (f : Nat) : Sd → Res := fun s => tyM X.l f .kind s.2 s.1
theorem RuleQ.none {X : Cx} {P : Prop} {M M' : Sd → Res} {fn : Nat} (h : RuleQ X False M fn) (hM : ∀ s r, s.2 < 0 → P → M' s = some r → False) : RuleQ X P M' fn := fun s w r h1 h2 hS => h s w r (fun hs => (hM s r hs (h1 hs).1 (h1 hs).2).elim) h2 hS
theorem tk_lt {X : Cx} {w : World} {s : Sd} {x : List UInt8} (h : PSt X w s) (q : tk X s x = true) : s.2 < 0 ∧ isM X.l s.1 x = true ∧ pos X s = s.1 ∧ s.1 + 1 < X.l.length := ⟨(tk_good q).1, (tk_good q).2, pos_good (tk_good q).1, isM_next h.wf.toWf (tk_good q).2⟩
theorem enter279 : ∀ args w, (callFunc 279 args).run Tryz.prog w = .ok (.enter 279 args) w := enters_of Tryz.func279 (by kernel_rfl) rfl
theorem enter252 : ∀ args w, (callFunc 252 args).run Tryz.prog w = .ok (.enter 252 args) w := enters_of Tryz.func252 (by kernel_rfl) rfl
theorem enter251 : ∀ args w, (callFunc 251 args).run Tryz.prog w = .ok (.enter 251 args) w := enters_of Tryz.func251 (by kernel_rfl) rfl
theorem enter268 : ∀ args w, (callFunc 268 args).run Tryz.prog w = .ok (.enter 268 args) w := enters_of Tryz.func268 (by kernel_rfl) rfl
theorem tyM_keeps {l : List Tok} : Keeps (fun f => tyM l f .kind) := fun _ _ _ _ hb h => tyM_bad hb h
theorem exM_keeps {l : List Tok} {t : XT} : Keeps (fun f => exM l f t) := fun _ _ _ _ hb h => exM_bad _ _ _ _ _ hb h
set_option maxHeartbeats 4000000 in
set_option maxRecDepth 100000 in
theorem typed_q (X : Cx) (P : Prop) (f : Nat) (hf : f ≤ 1000000) (I : P → ∀ f', f' ≤ f → RuleQ X P (tyR X f') 252) : RuleQ X P (tyR X (f + 1)) 252 := by
  intro s w r hr1 hr2 hS
  have L0 := Lib.hid ((LS.start hS).alloc w.heap.size rfl 38 zcc)
  have rr := hS.row.cell
  have hrb := hS.lt
  have hl := hS.len
  have hpl := hS.pos_lt
  obtain ⟨p, hp⟩ : ∃ p, p = pos X s := ⟨_, rfl⟩
  rw [← hp] at rr hpl
  have HP := Lib.hid hp
  have HI := Lib.hid I
  have H1 := Lib.hid hr1
  have H2 := Lib.hid hr2
  clear hp hr1 hr2 hS I
  go_enter Tryz.func252, Tryz.ntmps252
  cases q1 : tk X s kInt
  · have CT := Lib.hid (take_no X s ⟨#[105, 110, 116]⟩ _ L0.out.st (by decide) q1)
    go_wp2_with fail
    refine CT.out.mono ?_
    rintro e w1 ⟨rfl, hSw, hFw⟩
    have L1 := Lib.hid (L0.out.step hSw hFw)
    clear hSw hFw CT
    have Q1 := Lib.hid (tk_bad q1)
    clear q1
    cases q2 : tk X s kStr
    · have CT := Lib.hid (take_no X s ⟨#[115, 116, 114]⟩ _ L1.out.st (by decide) q2)
      go_wp2_with fail
      refine CT.out.mono ?_
      rintro e w2 ⟨rfl, hSw, hFw⟩
      have L2 := Lib.hid (L1.out.step hSw hFw)
      clear hSw hFw CT
      have Q2 := Lib.hid (tk_bad q2)
      clear q2
      cases q3 : tk X s kDyn
      · have CT := Lib.hid (take_no X s ⟨#[100, 121, 110]⟩ _ L2.out.st (by decide) q3)
        go_wp2_with fail
        refine CT.out.mono ?_
        rintro e w3 ⟨rfl, hSw, hFw⟩
        have L3 := Lib.hid (L2.out.step hSw hFw)
        clear hSw hFw CT
        have Q3 := Lib.hid (tk_bad q3)
        clear q3
        cases q4 : tk X s sOpen
        · have CT := Lib.hid (take_no X s ⟨#[123]⟩ _ L3.out.st (by decide) q4)
          go_wp2_with fail
          refine CT.out.mono ?_
          rintro e w4 ⟨rfl, hSw, hFw⟩
          have L4 := Lib.hid (L3.out.step hSw hFw)
          clear hSw hFw CT
          have Q4 := Lib.hid (tk_bad q4)
          clear q4
          cases q5 : tk X s kFn
          · have CT := Lib.hid (take_no X s ⟨#[102, 110]⟩ _ L4.out.st (by decide) q5)
            go_wp2_with fail
            refine CT.out.mono ?_
            rintro e w5 ⟨rfl, hSw, hFw⟩
            have L5 := Lib.hid (L4.out.step hSw hFw)
            clear hSw hFw CT
            have Q5 := Lib.hid (tk_bad q5)
            clear q5
            have HFAIL : Hid (r.2.2 = (failS s).2) := by
              unfold failS
              by_cases hs : 0 ≤ s.2
              · rw [if_pos hs]; exact H2.out hs
              · rw [if_neg hs]
                have h := (H1.out (by omega)).2
                exact ty_no h (by omega) (Q1.out.resolve_left hs) (Q2.out.resolve_left hs) (Q3.out.resolve_left hs) (Q4.out.resolve_left hs) (Q5.out.resolve_left hs)
            clear Q1 Q2 Q3 Q4 Q5 H1 H2 HP HI
            have CF := Lib.hid (fail_any X s _ L5.out.st)
            go_wp2_with fail
            refine CF.out.mono ?_
            rintro e wz ⟨rfl, hSw, hFw⟩
            have LYb := Lib.hid (L5.out.step hSw hFw)
            have u1 := (LYb.out.row 0 rfl).cell
            have u2 := (LYb.out.row 0 rfl).thaw
            have LY := Lib.hid (LYb.out.put6 0 rfl rfl (.int .i64 0) (.int .i64 0) (.int .i64 0) (.string ⟨#[]⟩) (.int .i64 0) (.slice none 0 0))
            clear hSw hFw CF
            go_wp2
            refine bodyPost_ret ?_ rfl ⟨⟨0, 0, 0, e0, 0⟩, .nil, none, 0, rfl, KV.nil _ _ _ _, PSt.to LY.out.st (fun h => absurd h (by have := failS_bad s; omega)) (fun _ => HFAIL.out), LY.out.fr, ?_⟩
            · simp [results, Tryz.results252, go_sem, u1]
              try first | rfl | exact ⟨rfl, rfl⟩
            · intro hh
              rw [HFAIL.out] at hh
              exact absurd hh (by have := failS_bad s; omega)
          · obtain ⟨hg, hm, hp, hnx⟩ := tk_lt L4.out.st q5
            obtain ⟨rl, t, hL, hLb, ht, hR⟩ := ty_fn (H1.out hg).2 hg hm
            obtain ⟨s2, hs2⟩ : ∃ s2, s2 = wantS X (s.1 + 1, s.2) sParO := ⟨_, rfl⟩
            obtain ⟨s4, hs4⟩ : ∃ s4, s4 = wantS X rl.2 sCol := ⟨_, rfl⟩
            rw [← hs2] at hL hLb
            rw [← hs4] at ht
            have hP := (H1.out hg).1
            have HL := Lib.hid hL
            have HLB := Lib.hid hLb
            have HS2 := Lib.hid hs2
            have HS4 := Lib.hid hs4
            have HT := Lib.hid ht
            have HR2 := Lib.hid hR
            have HPS := Lib.hid (HP.out.trans hp)
            have HIR := Lib.hid (HI.out hP)
            have HPP := Lib.hid hP
            clear hR hm hp hnx hL hLb hs2 hs4 ht H1 H2 HP HI hP hg
            have CT := Lib.hid (take_yes X s ⟨#[102, 110]⟩ _ L4.out.st (by decide) q5)
            go_wp2_with fail
            refine CT.out.mono ?_
            rintro e wa ⟨rfl, hSw, hFw⟩
            have LA := Lib.hid (L4.out.step hSw hFw)
            clear hSw hFw CT
            clear q5
            have CW := Lib.hid (want_any X (s.1 + 1, s.2) ⟨#[40]⟩ _ LA.out.st (by decide))
            go_wp2_with fail
            refine CW.out.mono ?_
            rintro e wb ⟨rfl, hSw, hFw⟩
            have LB0 := Lib.hid (LA.out.step hSw hFw)
            clear hSw hFw CW
            have LB : Hid (LS X w wb s2 [(w.heap.size, 38, zcc)] [] (.slice none 0 0) .nil) := by unfold Hid; rw [HS2.out]; exact LB0.out
            clear LB0 LA
            go_wp2_with fail
            refine (list_q X P (fun f => tyM X.l f .kind) ⟨#[41]⟩ f hf (by decide) (by decide) 252 #[X.p] #[] (fun _ => True) (fun _ _ _ _ => trivial) (fun w => enter252 _ w) (fun f' hf' s w r _ h1 h2 hS => HIR.out f' hf' s w r h1 h2 hS) s2 wb rl trivial (fun _ => ⟨HPP.out, HL.out⟩) HLB.out LB.out.st).mono ?_
            rintro e wc ⟨v, K, rfl, hown, hSc, hFc, hKc, hlen⟩
            have LC := Lib.hid (LB.out.give hSc hFc hown)
            have HKC := Lib.hid hKc
            clear hown hSc hFc hKc LB HL HLB HS2
            have CW := Lib.hid (want_any X rl.2 ⟨#[58]⟩ _ LC.out.st (by decide))
            go_wp2_with fail
            refine CW.out.mono ?_
            rintro e wd ⟨rfl, hSw, hFw⟩
            have LD0 := Lib.hid (LC.out.step hSw hFw)
            clear hSw hFw CW
            have LD : Hid (LS X w wd s4 [(w.heap.size, 38, zcc)] [] v K) := by unfold Hid; rw [HS4.out]; exact LD0.out
            have CT : Hid (∀ w', PSt X w' s4 → Calls Tryz.prog 252 #[X.p] w' (NodeQ X w' t)) := fun w' h => HIR.out f (Nat.le_refl _) s4 w' t (fun _ => ⟨HPP.out, HT.out⟩) (fun h => tyM_bad h HT.out) h
            clear LD0 LC
            go_wp2_with fail
            refine (CT.out _ LD.out.st).mono ?_
            rintro e we ⟨h1, k1, A1, c1, rfl, hKw, hSw, hFw, hN1⟩
            obtain ⟨x11, x12, x13, x14, x15⟩ := h1
            have LE := Lib.hid (LD.out.kid hSw hFw hKw)
            have HN1 := Lib.hid hN1
            clear hSw hFw hKw hN1
            have M6 := Lib.hid (LE.out.other (bel1 _ (.cells (ncc ⟨x11, x12, x13, x14, x15⟩ A1 k1.len c1) 38)))
            have HRF : Hid (t.2.2 < 0 → r = (.one ⟨34, p, pos X t.2, e0, 0⟩ (K.app (.one ⟨x11, x12, x13, x14, x15⟩ k1)), t.2)) := fun h => by
              have h4 : s4.2 < 0 := by
                by_cases hh : 0 ≤ s4.2
                · have := tyM_bad hh HT.out; omega
                · omega
              rw [HS4.out] at h4
              have h3 := (wantS_good h4).1
              rw [HR2.out, HKC.out h3, HN1.out h, HPS.out, pos_good h]
            have HB : Hid (0 ≤ t.2.2 → r.2.2 = t.2.2) := fun h => by rw [HR2.out]
            obtain ⟨cs, o1, o2⟩ := M6.out.own
            have O1 := Lib.hid o1
            have O2 := Lib.hid o2
            obtain ⟨AK, cK, eK, hcK, _⟩ := M6.out.list
            subst eK
            obtain ⟨i0, hi0, hz0, hz1, hz2⟩ := info_parts info25
            have b5 := Lib.hid M6.out.size
            have b3' : K.len + 1 ≤ maxLen := by unfold maxLen; omega
            have b4' : (K.len + 1) * 72 ≤ 140737488355328 := by omega
            have CN := Lib.hid (cells_nd we (.int .i64 x11) (.int .i64 x12) (.int .i64 x13) (.string x14) (.int .i64 x15) (.slice A1 k1.len c1))
            clear o1 o2 HN1 CT LD HKC HS4 HT HR2 HPS HIR HPP
            go_wp2_with (at_builtin; refine wpList_append_at rfl (.tmp 52) (.tmp 55) 36 rfl w.heap.size 38 i0 (.agg #[.int .i64 0, .int .i64 0, .int .i64 0, .string ⟨#[]⟩, .int .i64 0, .slice none 0 0]) 6 72 Tryz.underlying36 hi0 hz0 hz1 hz2 rfl (by decide) _ K.len cs rfl O1.out ⟨we.heap.size, 0, none⟩ 1 1 [.int .i64 x11, .int .i64 x12, .int .i64 x13, .string x14, .int .i64 x15, .slice A1 k1.len c1] rfl rfl (by simpa using CN.out) (one_nd ⟨x11, x12, x13, x14, x15⟩ _ _ _) b3' b4' b5.out ?_)
            intro v' w7 hown' hgrow hat
            have M7 := Lib.hid (M6.out.push ⟨O1.out, O2.out⟩ (k := .one ⟨x11, x12, x13, x14, x15⟩ k1) (FC.one (M6.out.kidP 0 rfl)) hown' hgrow (fun j hj => by
              rcases hat j hj with h | h
              · exact .inl h
              · exact .inr (by simpa using h)))
            obtain ⟨A7, c7, e7, hc7, _⟩ := M7.out.list
            subst e7
            have LF := Lib.hid M7.out.toKid
            clear hown' hgrow hat b3' b4' b5 CN O1 O2 M6 M7
            go_wp2_with fail
            refine (node_any X t.2 34 p (A7) (K.app (.one ⟨x11, x12, x13, x14, x15⟩ k1)).len c7 _ LF.out.st).mono ?_
            rintro e wg ⟨rfl, hbw⟩
            have LGb := Lib.hid (LF.out.other hbw)
            have u1 := (LGb.out.row 0 rfl).cell
            have u2 := (LGb.out.row 0 rfl).thaw
            have LG := Lib.hid (LGb.out.put6 0 rfl rfl (.int .i64 34) (.int .i64 p) (.int .i64 (pos X t.2)) (.string e0) (.int .i64 0) (.slice (A7) (K.app (.one ⟨x11, x12, x13, x14, x15⟩ k1)).len c7))
            clear hbw
            go_wp2
            refine bodyPost_ret ?_ rfl ⟨⟨34, p, pos X t.2, e0, 0⟩, (K.app (.one ⟨x11, x12, x13, x14, x15⟩ k1)), A7, c7, rfl, (LG.out.kidP 0 rfl).new_ (fun g h => h.1), PSt.to LG.out.st (fun h => by rw [HRF.out h]) HB.out, LG.out.fr, ?_⟩
            · simp [results, Tryz.results252, go_sem, u1]
              try first | rfl | exact ⟨rfl, rfl⟩
            · intro hh
              rw [HRF.out (by by_cases h : t.2.2 < 0; exact h; rw [HB.out (by omega)] at hh; exact absurd hh h)]
        · obtain ⟨hg, hm, hp, hnx⟩ := tk_lt L3.out.st q4
          obtain ⟨q, hq, hR⟩ := ty_rec (H1.out hg).2 hg hm
          obtain ⟨rl, hrl⟩ : ∃ rl : Fo × Sd, rl = (q.1, wantM X.l q.2.2 q.2.1 sShut) := ⟨_, rfl⟩
          have hR2 : r = (.one ⟨32, s.1, rl.2.1, e0, 0⟩ rl.1, rl.2) := by rw [hR, hrl]
          have hL : P ∧ ∃ q, listM X.l (labR X.l 33 (fun f => tyM X.l f .kind)) sShut f true ((s.1 + 1, s.2) : Sd).2 ((s.1 + 1, s.2) : Sd).1 = some q ∧ rl = (q.1, wantM X.l q.2.2 q.2.1 sShut) := ⟨(H1.out hg).1, q, hq, hrl⟩
          have HL := Lib.hid hL
          have HR2 := Lib.hid hR2
          have hP := (H1.out hg).1
          have HG := Lib.hid hg
          have HPS := Lib.hid (HP.out.trans hp)
          have HIR := Lib.hid (HI.out hP)
          clear hR hm hp hnx hq hrl hR2 hL H1 H2 HP HI hP hg
          have CT := Lib.hid (take_yes X s ⟨#[123]⟩ _ L3.out.st (by decide) q4)
          go_wp2_with fail
          refine CT.out.mono ?_
          rintro e wa ⟨rfl, hSw, hFw⟩
          have LA := Lib.hid (L3.out.step hSw hFw)
          clear hSw hFw CT
          clear q4
          go_wp2_with fail
          refine (labelled_any X 33 252 _).mono ?_
          rintro e wb ⟨rfl, hwb⟩
          have I0 : Hid (LabI X 33 252 wa.heap.size wb) := by unfold Hid; rw [hwb]; exact LabI.new (LA.out.st.lt)
          have LB : Hid (LS X w wb (s.1 + 1, s.2) [(w.heap.size, 38, zcc)] [] (.slice none 0 0) .nil) := by unfold Hid; rw [hwb]; exact LA.out.other ((((Below.refl _ _).alloc (Nat.le_refl _) _).alloc (by simp) _).alloc (by simp; omega) _)
          clear hwb
          go_wp2_with fail
          refine (list_q X P (labR X.l 33 (fun f => tyM X.l f .kind)) ⟨#[125]⟩ f hf (by decide) (by decide) 279 #[] #[.pointer (some ⟨wa.heap.size, 0, none⟩), .pointer (some ⟨wa.heap.size + 1, 0, none⟩), .pointer (some ⟨wa.heap.size + 2, 0, none⟩)] (LabI X 33 252 wa.heap.size) (fun w w' h hf => h.keep hf) (fun w => enter279 _ w) (fun f' hf' => lab_q X P _ tyM_keeps 33 252 wa.heap.size f' (fun w => enter252 _ w) (HIR.out f' hf')) (s.1 + 1, s.2) wb rl I0.out (fun _ => HL.out) (fun h => absurd h (by have := HG.out; dsimp only; omega)) LB.out.st).mono ?_
          rintro e wc ⟨v, K, rfl, hown, hSc, hFc, hKc, hlen⟩
          have LC := Lib.hid (LB.out.give hSc hFc hown)
          obtain ⟨A, cap, hv, hcap, _⟩ := LC.out.list
          subst hv
          have LD := Lib.hid LC.out.toKid
          have HKC := Lib.hid hKc
          clear hown hSc hFc hKc LC LB I0
          have HR : Hid (rl.2.2 < 0 → r = (.one ⟨32, p, pos X rl.2, e0, 0⟩ K, rl.2)) := fun h => by rw [HR2.out, HKC.out h, HPS.out, pos_good h]
          have HB : Hid (0 ≤ rl.2.2 → r.2.2 = rl.2.2) := fun h => by rw [HR2.out]
          clear HL HR2 HKC HG HIR
          go_wp2_with fail
          refine (node_any X rl.2 32 p (A) K.len cap _ LD.out.st).mono ?_
          rintro e wd ⟨rfl, hbw⟩
          have LEb := Lib.hid (LD.out.other hbw)
          have u1 := (LEb.out.row 0 rfl).cell
          have u2 := (LEb.out.row 0 rfl).thaw
          have LE := Lib.hid (LEb.out.put6 0 rfl rfl (.int .i64 32) (.int .i64 p) (.int .i64 (pos X rl.2)) (.string e0) (.int .i64 0) (.slice (A) K.len cap))
          clear hbw
          go_wp2
          refine bodyPost_ret ?_ rfl ⟨⟨32, p, pos X rl.2, e0, 0⟩, K, A, cap, rfl, (LE.out.kidP 0 rfl).new_ (fun g h => h.1), PSt.to LE.out.st (fun h => by rw [HR.out h]) HB.out, LE.out.fr, ?_⟩
          · simp [results, Tryz.results252, go_sem, u1]
            try first | rfl | exact ⟨rfl, rfl⟩
          · intro hh
            rw [HR.out (by by_cases h : rl.2.2 < 0; exact h; rw [HB.out (by omega)] at hh; exact absurd hh h)]
      · obtain ⟨hg, hm, hp, hnx⟩ := tk_lt L2.out.st q3
        have hR := ty_plain (H1.out hg).2 hg kDyn 31 (.inr (.inr ⟨rfl, rfl⟩)) hm
        have HR : Hid (((s.1 + 1, s.2) : Sd).2 < 0 → r = (.one ⟨31, p, pos X (s.1 + 1, s.2), e0, 0⟩ .nil, (s.1 + 1, s.2))) := fun h => by rw [hR, pos_good h, HP.out, hp]
        have HB : Hid (0 ≤ ((s.1 + 1, s.2) : Sd).2 → r.2.2 = ((s.1 + 1, s.2) : Sd).2) := fun h => absurd h (by dsimp only; omega)
        clear hR hm hp hnx hg
        have CT := Lib.hid (take_yes X s ⟨#[100, 121, 110]⟩ _ L2.out.st (by decide) q3)
        go_wp2_with fail
        refine CT.out.mono ?_
        rintro e wa ⟨rfl, hSw, hFw⟩
        have LA := Lib.hid (L2.out.step hSw hFw)
        clear hSw hFw CT
        clear q3 H1 H2 HP HI
        go_wp2_with fail
        refine (node_any X (s.1 + 1, s.2) 31 p (none) 0 0 _ LA.out.st).mono ?_
        rintro e wb ⟨rfl, hbw⟩
        have LBb := Lib.hid (LA.out.other hbw)
        have u1 := (LBb.out.row 0 rfl).cell
        have u2 := (LBb.out.row 0 rfl).thaw
        have LB := Lib.hid (LBb.out.put6 0 rfl rfl (.int .i64 31) (.int .i64 p) (.int .i64 (pos X (s.1 + 1, s.2))) (.string e0) (.int .i64 0) (.slice (none) 0 0))
        clear hbw
        go_wp2
        refine bodyPost_ret ?_ rfl ⟨⟨31, p, pos X (s.1 + 1, s.2), e0, 0⟩, .nil, none, 0, rfl, KV.nil _ _ _ _, PSt.to LB.out.st (fun h => by rw [HR.out h]) HB.out, LB.out.fr, ?_⟩
        · simp [results, Tryz.results252, go_sem, u1]
          try first | rfl | exact ⟨rfl, rfl⟩
        · intro hh
          rw [HR.out (by by_cases h : ((s.1 + 1, s.2) : Sd).2 < 0; exact h; rw [HB.out (by omega)] at hh; exact absurd hh h)]
    · obtain ⟨hg, hm, hp, hnx⟩ := tk_lt L1.out.st q2
      have hR := ty_plain (H1.out hg).2 hg kStr 30 (.inr (.inl ⟨rfl, rfl⟩)) hm
      have HR : Hid (((s.1 + 1, s.2) : Sd).2 < 0 → r = (.one ⟨30, p, pos X (s.1 + 1, s.2), e0, 0⟩ .nil, (s.1 + 1, s.2))) := fun h => by rw [hR, pos_good h, HP.out, hp]
      have HB : Hid (0 ≤ ((s.1 + 1, s.2) : Sd).2 → r.2.2 = ((s.1 + 1, s.2) : Sd).2) := fun h => absurd h (by dsimp only; omega)
      clear hR hm hp hnx hg
      have CT := Lib.hid (take_yes X s ⟨#[115, 116, 114]⟩ _ L1.out.st (by decide) q2)
      go_wp2_with fail
      refine CT.out.mono ?_
      rintro e wa ⟨rfl, hSw, hFw⟩
      have LA := Lib.hid (L1.out.step hSw hFw)
      clear hSw hFw CT
      clear q2 H1 H2 HP HI
      go_wp2_with fail
      refine (node_any X (s.1 + 1, s.2) 30 p (none) 0 0 _ LA.out.st).mono ?_
      rintro e wb ⟨rfl, hbw⟩
      have LBb := Lib.hid (LA.out.other hbw)
      have u1 := (LBb.out.row 0 rfl).cell
      have u2 := (LBb.out.row 0 rfl).thaw
      have LB := Lib.hid (LBb.out.put6 0 rfl rfl (.int .i64 30) (.int .i64 p) (.int .i64 (pos X (s.1 + 1, s.2))) (.string e0) (.int .i64 0) (.slice (none) 0 0))
      clear hbw
      go_wp2
      refine bodyPost_ret ?_ rfl ⟨⟨30, p, pos X (s.1 + 1, s.2), e0, 0⟩, .nil, none, 0, rfl, KV.nil _ _ _ _, PSt.to LB.out.st (fun h => by rw [HR.out h]) HB.out, LB.out.fr, ?_⟩
      · simp [results, Tryz.results252, go_sem, u1]
        try first | rfl | exact ⟨rfl, rfl⟩
      · intro hh
        rw [HR.out (by by_cases h : ((s.1 + 1, s.2) : Sd).2 < 0; exact h; rw [HB.out (by omega)] at hh; exact absurd hh h)]
  · obtain ⟨hg, hm, hp, hnx⟩ := tk_lt L0.out.st q1
    have hR := ty_plain (H1.out hg).2 hg kInt 29 (.inl ⟨rfl, rfl⟩) hm
    have HR : Hid (((s.1 + 1, s.2) : Sd).2 < 0 → r = (.one ⟨29, p, pos X (s.1 + 1, s.2), e0, 0⟩ .nil, (s.1 + 1, s.2))) := fun h => by rw [hR, pos_good h, HP.out, hp]
    have HB : Hid (0 ≤ ((s.1 + 1, s.2) : Sd).2 → r.2.2 = ((s.1 + 1, s.2) : Sd).2) := fun h => absurd h (by dsimp only; omega)
    clear hR hm hp hnx hg
    have CT := Lib.hid (take_yes X s ⟨#[105, 110, 116]⟩ _ L0.out.st (by decide) q1)
    go_wp2_with fail
    refine CT.out.mono ?_
    rintro e wa ⟨rfl, hSw, hFw⟩
    have LA := Lib.hid (L0.out.step hSw hFw)
    clear hSw hFw CT
    clear q1 H1 H2 HP HI
    go_wp2_with fail
    refine (node_any X (s.1 + 1, s.2) 29 p (none) 0 0 _ LA.out.st).mono ?_
    rintro e wb ⟨rfl, hbw⟩
    have LBb := Lib.hid (LA.out.other hbw)
    have u1 := (LBb.out.row 0 rfl).cell
    have u2 := (LBb.out.row 0 rfl).thaw
    have LB := Lib.hid (LBb.out.put6 0 rfl rfl (.int .i64 29) (.int .i64 p) (.int .i64 (pos X (s.1 + 1, s.2))) (.string e0) (.int .i64 0) (.slice (none) 0 0))
    clear hbw
    go_wp2
    refine bodyPost_ret ?_ rfl ⟨⟨29, p, pos X (s.1 + 1, s.2), e0, 0⟩, .nil, none, 0, rfl, KV.nil _ _ _ _, PSt.to LB.out.st (fun h => by rw [HR.out h]) HB.out, LB.out.fr, ?_⟩
    · simp [results, Tryz.results252, go_sem, u1]
      try first | rfl | exact ⟨rfl, rfl⟩
    · intro hh
      rw [HR.out (by by_cases h : ((s.1 + 1, s.2) : Sd).2 < 0; exact h; rw [HB.out (by omega)] at hh; exact absurd hh h)]
end Pg
end Go.Proofs.YthjflofcgdfekaaGreatDoor
