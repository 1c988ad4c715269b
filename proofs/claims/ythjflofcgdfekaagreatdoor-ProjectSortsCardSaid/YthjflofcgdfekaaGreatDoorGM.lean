import Derived.Test.YthjflofcgdfekaaGreatDoorGL
namespace Go.Proofs.YthjflofcgdfekaaGreatDoor
open Go.RowKit
namespace Pg
open Ps
theorem par_pure {X : Cx} {P : Prop} {f : Nat} {s : Sd} {r : Fo × Sd} (h1 : s.2 < 0 → P ∧ parR X.l f s.2 s.1 = some r) (h2 : 0 ≤ s.2 → r.2.2 = s.2) :
    ∃ t : Fo × Sd, ((wordS X s).2 < 0 → P ∧ typedM X.l f (wordS X s).2 (wordS X s).1 = some t) ∧ (0 ≤ (wordS X s).2 → t.2.2 = (wordS X s).2) ∧
      (t.2.2 < 0 → r = (.one ⟨5, pos X s, t.2.1, textAt X.l (wat X s), wat X s⟩ t.1, t.2)) ∧ (0 ≤ t.2.2 → r.2.2 = t.2.2) := by
  by_cases hs : 0 ≤ s.2
  · rw [wordS_bad hs]
    exact ⟨(.nil, s), fun h => absurd h (by omega), fun _ => rfl, fun h => absurd h (by dsimp only; omega), fun _ => h2 hs⟩
  · obtain ⟨hP, h⟩ := h1 (by omega)
    unfold parR at h
    dsimp only at h
    obtain ⟨t, ht, h⟩ := Option.bind_eq_some_iff.1 h
    have e1 : (wordM X.l s.2 ⟨5, s.1, 0, e0, 0⟩ s.1).2 = wordS X s := by
      unfold wordS
      rw [wordM_snd s.2 ⟨5, s.1, 0, e0, 0⟩ ⟨0, 0, 0, e0, 0⟩ s.1]
    rw [e1] at ht
    injection h with h
    refine ⟨t, fun _ => ⟨hP, ht⟩, fun hb => typedM_bad hb ht, fun hg => ?_, fun _ => by rw [← h]⟩
    have hy : (wordS X s).2 < 0 := by
      by_cases hh : 0 ≤ (wordS X s).2
      · have := typedM_bad hh ht; omega
      · omega
    obtain ⟨g1, g2, g3, g4⟩ := wordS_good hy
    rw [← h, g4, g2, pos_good g1]
theorem params_pure {X : Cx} {P : Prop} {f : Nat} {s : Sd} {r : Fo × Sd} (h1 : s.2 < 0 → P ∧ paramsM X.l f s.2 s.1 = some r) (h2 : 0 ≤ s.2 → r.2.2 = s.2) :
    ∃ t : Fo × Sd, ((wantS X s sParO).2 < 0 → P ∧ ∃ q, listM X.l (parR X.l) sParS f true (wantS X s sParO).2 (wantS X s sParO).1 = some q ∧ t = (q.1, wantM X.l q.2.2 q.2.1 sParS)) ∧ (0 ≤ (wantS X s sParO).2 → t.2.2 = (wantS X s sParO).2) ∧
      (t.2.2 < 0 → r = (.one ⟨4, pos X s, t.2.1, e0, 0⟩ t.1, t.2)) ∧ (0 ≤ t.2.2 → r.2.2 = t.2.2) := by
  by_cases hs : 0 ≤ s.2
  · rw [wantS_bad hs]
    exact ⟨(.nil, s), fun h => absurd h (by omega), fun _ => rfl, fun h => absurd h (by dsimp only; omega), fun _ => h2 hs⟩
  · obtain ⟨hP, h⟩ := h1 (by omega)
    unfold paramsM at h
    dsimp only at h
    obtain ⟨q, hq, h⟩ := Option.bind_eq_some_iff.1 h
    injection h with h
    refine ⟨(q.1, wantM X.l q.2.2 q.2.1 sParS), fun _ => ⟨hP, q, by rw [← par_list]; exact hq, rfl⟩, fun hb => ?_, fun hg => ?_, fun _ => by rw [← h]⟩
    · have := parL_bad hb hq
      dsimp only
      rw [wantM_bad (by have : (wantS X s sParO).2 = (wantM X.l s.2 s.1 sParO).2 := rfl; omega)]
      exact this
    · rw [← h, pos_good (by omega)]
set_option maxHeartbeats 4000000 in
set_option maxRecDepth 100000 in
theorem written_q (X : Cx) (P : Prop) (f : Nat) (I : RuleQ X P (tyR X f) 252) : RuleQ X P (fun s => typedM X.l f s.2 s.1) 224 := by
  intro s w r hr1 hr2 hS
  have L0 := Lib.hid ((LS.start hS).alloc w.heap.size rfl 38 zcc)
  have rr := hS.row.cell
  have hrb := hS.lt
  have hl := hS.len
  have hpl := hS.pos_lt
  clear rr
  cases q1 : tk X s sCol
  · have HR : Hid (s.2 < 0 → r = (.zero, s)) := fun h => by
      have h3 := (hr1 h).2
      dsimp only at h3
      unfold typedM at h3
      rw [if_pos (.inr (by rw [(tk_bad q1).resolve_left (by omega)]; simp))] at h3
      injection h3 with h3; exact h3.symm
    have HB := Lib.hid hr2
    clear hr1 hr2 I hS
    go_enter Tryz.func224, Tryz.ntmps224
    have CT := Lib.hid (take_no X s ⟨#[58]⟩ _ L0.out.st (by decide) q1)
    go_wp2_with fail
    refine CT.out.mono ?_
    rintro e w1 ⟨rfl, hSw, hFw⟩
    have L1 := Lib.hid (L0.out.step hSw hFw)
    clear hSw hFw CT
    clear q1
    have u1 := (L1.out.row 0 rfl).cell
    have u2 := (L1.out.row 0 rfl).thaw
    have LY := Lib.hid (L1.out.put6 0 rfl rfl (.int .i64 0) (.int .i64 0) (.int .i64 0) (.string ⟨#[]⟩) (.int .i64 0) (.slice none 0 0))
    go_wp2
    refine bodyPost_ret ?_ rfl ⟨⟨0, 0, 0, e0, 0⟩, .nil, none, 0, rfl, KV.nil _ _ _ _, PSt.to LY.out.st (fun h => by rw [HR.out h]) HB.out, LY.out.fr, ?_⟩
    · simp [results, Tryz.results224, go_sem, u1]
      try first | rfl | exact ⟨rfl, rfl⟩
    · intro hh
      rw [HR.out (by by_cases h : (s : Sd).2 < 0; exact h; rw [HB.out (by omega)] at hh; exact absurd hh h)]
      rfl
  · obtain ⟨hg, hm⟩ := tk_good q1
    have hP := (hr1 hg).1
    have h3 := (hr1 hg).2
    dsimp only at h3
    unfold typedM at h3
    rw [if_neg (by rintro (h | h); omega; exact h hm)] at h3
    have CT2 : Hid (∀ w', PSt X w' (s.1 + 1, s.2) → Calls Tryz.prog 252 #[X.p] w' (NodeQ X w' r)) := fun w' h => I (s.1 + 1, s.2) w' r (fun _ => ⟨hP, h3⟩) (fun h => absurd h (by dsimp only; omega)) h
    clear hr1 hr2 I hS hg hm hP h3
    go_enter Tryz.func224, Tryz.ntmps224
    have CT := Lib.hid (take_yes X s ⟨#[58]⟩ _ L0.out.st (by decide) q1)
    go_wp2_with fail
    refine CT.out.mono ?_
    rintro e w1 ⟨rfl, hSw, hFw⟩
    have L1 := Lib.hid (L0.out.step hSw hFw)
    clear hSw hFw CT
    clear q1
    go_wp2_with fail
    refine (CT2.out _ L1.out.st).mono ?_
    rintro e w2 ⟨h1, k1, A1, c1, rfl, hKw, hSw, hFw, hN1⟩
    obtain ⟨x11, x12, x13, x14, x15⟩ := h1
    have L2 := Lib.hid (L1.out.kid hSw hFw hKw)
    have HN1 := Lib.hid hN1
    clear hSw hFw hKw hN1
    have u1 := (L2.out.row 0 rfl).cell
    have u2 := (L2.out.row 0 rfl).thaw
    have LY := Lib.hid (L2.out.put6 0 rfl rfl (.int .i64 x11) (.int .i64 x12) (.int .i64 x13) (.string x14) (.int .i64 x15) (.slice A1 k1.len c1))
    clear CT2
    go_wp2
    refine bodyPost_ret ?_ rfl ⟨⟨x11, x12, x13, x14, x15⟩, k1, A1, c1, rfl, (LY.out.kidP 0 rfl).new_ (fun g h => h.1), LY.out.st, LY.out.fr, HN1.out⟩
    simp [results, Tryz.results224, go_sem, u1]
    try first | rfl | exact ⟨rfl, rfl⟩
set_option maxHeartbeats 4000000 in
set_option maxRecDepth 100000 in
theorem param_q (X : Cx) (P : Prop) (f : Nat) (I : RuleQ X P (fun s => typedM X.l f s.2 s.1) 224) : RuleQ X P (fun s => parR X.l f s.2 s.1) 251 := by
  intro s w r hr1 hr2 hS
  have L0 := Lib.hid ((LS.start hS).alloc w.heap.size rfl 38 zcc)
  have rr := hS.row.cell
  have hrb := hS.lt
  have hl := hS.len
  have hpl := hS.pos_lt
  obtain ⟨t, ht1, ht2, hrt, hbt⟩ := par_pure hr1 hr2
  have hwl := wat_lt hS
  have HR := Lib.hid hrt
  have HB := Lib.hid hbt
  have CT : Hid (∀ w', PSt X w' (wordS X s) → Calls Tryz.prog 224 #[X.p] w' (NodeQ X w' t)) := fun w' h => I _ w' t ht1 ht2 h
  clear hr1 hr2 ht1 ht2 hrt hbt hS I
  have CWD := fun w' h => word_any X s w' h
  generalize wat X s = q at *
  generalize pos X s = p at *
  have CWW := Lib.hid (CWD _ L0.out.st)
  clear CWD
  go_enter Tryz.func251, Tryz.ntmps251
  go_wp2_with fail
  refine CWW.out.mono ?_
  rintro e w1 ⟨rfl, hSw, hFw⟩
  have L1 := Lib.hid (L0.out.step hSw hFw)
  clear hSw hFw CWW
  go_wp2_with fail
  refine (CT.out _ L1.out.st).mono ?_
  rintro e w2 ⟨h1, k1, A1, c1, rfl, hKw, hSw, hFw, hN1⟩
  obtain ⟨x11, x12, x13, x14, x15⟩ := h1
  have L2 := Lib.hid (L1.out.kid hSw hFw hKw)
  have HN1 := Lib.hid hN1
  clear hSw hFw hKw hN1
  have L3 := Lib.hid (L2.out.slice w2.heap.size rfl (k := .one ⟨x11, x12, x13, x14, x15⟩ k1) (cs := ncc ⟨x11, x12, x13, x14, x15⟩ A1 k1.len c1) (FC.one (L2.out.kidP 0 rfl)))
  go_wp2_with fail
  refine (named_any X t.2 5 p q (some ⟨w2.heap.size, 0, none⟩) 1 1 _ L3.out.st hwl).mono ?_
  rintro e w4 ⟨rfl, hbw⟩
  have L4b := Lib.hid (L3.out.other hbw)
  have u1 := (L4b.out.row 0 rfl).cell
  have u2 := (L4b.out.row 0 rfl).thaw
  have L4 := Lib.hid (L4b.out.put6 0 rfl rfl (.int .i64 5) (.int .i64 p) (.int .i64 (pos X t.2)) (.string (textAt X.l q)) (.int .i64 q) (.slice (some ⟨w2.heap.size, 0, none⟩) 1 1))
  clear hbw
  go_wp2
  have HR2 : Hid (t.2.2 < 0 → r = (.one ⟨5, p, pos X t.2, textAt X.l q, q⟩ (.one ⟨x11, x12, x13, x14, x15⟩ k1), t.2)) := fun h => by rw [HR.out h, HN1.out h, pos_good h]
  clear HR
  have HR := HR2
  refine bodyPost_ret ?_ rfl ⟨⟨5, p, pos X t.2, textAt X.l q, q⟩, (.one ⟨x11, x12, x13, x14, x15⟩ k1), some ⟨w2.heap.size, 0, none⟩, 1, rfl, (L4.out.kidP 0 rfl).new_ (fun g h => h.1), PSt.to L4.out.st (fun h => by rw [HR.out h]) HB.out, L4.out.fr, ?_⟩
  · simp [results, Tryz.results251, go_sem, u1]
    try first | rfl | exact ⟨rfl, rfl⟩
  · intro hh
    rw [HR.out (by by_cases h : (t.2 : Sd).2 < 0; exact h; rw [HB.out (by omega)] at hh; exact absurd hh h)]
set_option maxHeartbeats 4000000 in
set_option maxRecDepth 100000 in
theorem params_q (X : Cx) (P : Prop) (f : Nat) (hf : f ≤ 1000000) (I : ∀ f', f' ≤ f → RuleQ X P (fun s => parR X.l f' s.2 s.1) 251) : RuleQ X P (fun s => paramsM X.l f s.2 s.1) 223 := by
  intro s w r hr1 hr2 hS
  have L0 := Lib.hid ((LS.start hS).alloc w.heap.size rfl 38 zcc)
  have rr := hS.row.cell
  have hrb := hS.lt
  have hl := hS.len
  have hpl := hS.pos_lt
  obtain ⟨t, ht1, ht2, hrt, hbt⟩ := params_pure hr1 hr2
  have HR := Lib.hid hrt
  have HB := Lib.hid hbt
  have HL := Lib.hid ht1
  have HLB := Lib.hid ht2
  have HI := Lib.hid I
  clear hr1 hr2 ht1 ht2 hrt hbt hS I
  generalize pos X s = p at *
  go_enter Tryz.func223, Tryz.ntmps223
  have CW := Lib.hid (want_any X s ⟨#[40]⟩ _ L0.out.st (by decide))
  go_wp2_with fail
  refine CW.out.mono ?_
  rintro e wb ⟨rfl, hSw, hFw⟩
  have LB := Lib.hid (L0.out.step hSw hFw)
  clear hSw hFw CW
  go_wp2_with fail
  refine (list_q X P (parR X.l) ⟨#[41]⟩ f hf (by decide) (by decide) 251 #[X.p] #[] (fun _ => True) (fun _ _ _ _ => trivial) (fun w => enter251 _ w) (fun f' hf' s w r _ h1 h2 hS => HI.out f' hf' s w r h1 h2 hS) (wantS X s sParO) wb t trivial HL.out HLB.out LB.out.st).mono ?_
  rintro e wc ⟨v, K, rfl, hown, hSc, hFc, hKc, hlen⟩
  have LC := Lib.hid (LB.out.give hSc hFc hown)
  obtain ⟨A, cap, hv, hcap, _⟩ := LC.out.list
  subst hv
  have LD := Lib.hid LC.out.toKid
  have HKC := Lib.hid hKc
  clear hown hSc hFc hKc LC LB
  have HR2 : Hid (t.2.2 < 0 → r = (.one ⟨4, p, pos X t.2, e0, 0⟩ K, t.2)) := fun h => by rw [HR.out h, HKC.out h, pos_good h]
  clear HL HLB HI HKC HR
  have HR := HR2
  go_wp2_with fail
  refine (node_any X t.2 4 p (A) K.len cap _ LD.out.st).mono ?_
  rintro e wd ⟨rfl, hbw⟩
  have LEb := Lib.hid (LD.out.other hbw)
  have u1 := (LEb.out.row 0 rfl).cell
  have u2 := (LEb.out.row 0 rfl).thaw
  have LE := Lib.hid (LEb.out.put6 0 rfl rfl (.int .i64 4) (.int .i64 p) (.int .i64 (pos X t.2)) (.string e0) (.int .i64 0) (.slice (A) K.len cap))
  clear hbw
  go_wp2
  refine bodyPost_ret ?_ rfl ⟨⟨4, p, pos X t.2, e0, 0⟩, K, A, cap, rfl, (LE.out.kidP 0 rfl).new_ (fun g h => h.1), PSt.to LE.out.st (fun h => by rw [HR.out h]) HB.out, LE.out.fr, ?_⟩
  · simp [results, Tryz.results223, go_sem, u1]
    try first | rfl | exact ⟨rfl, rfl⟩
  · intro hh
    rw [HR.out (by by_cases h : (t.2 : Sd).2 < 0; exact h; rw [HB.out (by omega)] at hh; exact absurd hh h)]
end Pg
end Go.Proofs.YthjflofcgdfekaaGreatDoor
