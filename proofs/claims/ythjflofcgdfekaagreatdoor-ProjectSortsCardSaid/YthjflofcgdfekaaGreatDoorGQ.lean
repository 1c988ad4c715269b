import Derived.Test.YthjflofcgdfekaaGreatDoorGP
import Derived.Deep.CutRange
namespace Go.Proofs.YthjflofcgdfekaaGreatDoor
open Go.RowKit
namespace Pg
open Ps
section
variable {l : List Tok} {f : Nat} {b : Int} {i p : Nat} {r : Fo × Nat × Int}
theorem st_word (h : exM l (f + 1) .stmt b i = some r) (hp : p = i) (hb : b < 0) (hk : kindAt l i = 1) (hq : isM l (i + 1) sEq = true) :
    ∃ v : Fo × Nat × Int, exM l f .expr b (i + 2) = some v ∧ r = (.one ⟨8, p, (wantM l v.2.2 v.2.1 sSem).1, textAt l i, i⟩ v.1, wantM l v.2.2 v.2.1 sSem) := by
  have no : ∀ x, isM l i x = false := fun x => by
    cases hx : isM l i x with
    | false => rfl
    | true => have := isM_kind hx; omega
  rw [exM, if_neg (by rw [no]; simp), if_neg (by rw [no]; simp), if_neg (by rw [no]; simp)] at h
  dsimp only at h
  rw [if_neg (by rw [no]; simp), if_neg (by rw [no]; simp), if_pos ⟨hk, hq⟩] at h
  have hw : wordM l b ⟨8, i, 0, e0, 0⟩ i = (⟨8, i, 0, textAt l i, i⟩, i + 1, b) := by unfold wordM; rw [if_neg (by omega), if_pos hk]
  rw [hw] at h
  obtain ⟨v, hv, h⟩ := Option.bind_eq_some_iff.1 h
  injection h with h
  exact ⟨v, hv, by rw [← h, hp]⟩
theorem st_let (h : exM l (f + 1) .stmt b i = some r) (hp : p = i) (hm : isM l i kLet = true) :
    ∃ t v : Fo × Nat × Int, typedM l f (wordM l b ⟨0, 0, 0, e0, 0⟩ (i + 1)).2.2 (wordM l b ⟨0, 0, 0, e0, 0⟩ (i + 1)).2.1 = some t ∧ exM l f .expr (wantM l t.2.2 t.2.1 sEq).2 (wantM l t.2.2 t.2.1 sEq).1 = some v ∧
      r = (.one { (wordM l b ⟨7, p, 0, e0, 0⟩ (i + 1)).1 with til := (wantM l v.2.2 v.2.1 sSem).1 } (t.1.app v.1), wantM l v.2.2 v.2.1 sSem) := by
  rw [exM, if_neg (by rw [isM_ne hm (by decide)]; simp), if_neg (by rw [isM_ne hm (by decide)]; simp), if_pos hm] at h
  dsimp only at h
  rw [wordM_snd b ⟨7, i, 0, e0, 0⟩ ⟨0, 0, 0, e0, 0⟩ (i + 1)] at h
  obtain ⟨t, ht, h⟩ := Option.bind_eq_some_iff.1 h
  obtain ⟨v, hv, h⟩ := Option.bind_eq_some_iff.1 h
  injection h with h
  exact ⟨t, v, ht, hv, by rw [← h, hp]⟩
theorem st_if (h : exM l (f + 1) .stmt b i = some r) (hp : p = i) (hm : isM l i kIf = true) :
    ∃ c k o : Fo × Nat × Int, exM l f .expr b (i + 1) = some c ∧ exM l f .block c.2.2 c.2.1 = some k ∧ otherM l f k.2 = some o ∧ r = (.one ⟨9, p, o.2.1, e0, 0⟩ (c.1.app (k.1.app o.1)), o.2) := by
  rw [exM, if_pos hm] at h
  obtain ⟨c, hc, h⟩ := Option.bind_eq_some_iff.1 h
  obtain ⟨k, hk, h⟩ := Option.bind_eq_some_iff.1 h
  split at h
  · rename_i hh
    obtain ⟨o, ho, h⟩ := Option.bind_eq_some_iff.1 h
    injection h with h
    exact ⟨c, k, o, hc, hk, by unfold otherM; rw [if_pos hh]; exact ho, by rw [← h, hp]⟩
  · rename_i hh
    injection h with h
    exact ⟨c, k, (.zero, k.2), hc, hk, by unfold otherM; rw [if_neg hh], by rw [← h, hp]⟩
theorem st_while (h : exM l (f + 1) .stmt b i = some r) (hp : p = i) (hm : isM l i kWhile = true) :
    ∃ c k : Fo × Nat × Int, exM l f .expr b (i + 1) = some c ∧ exM l f .block c.2.2 c.2.1 = some k ∧ r = (.one ⟨10, p, k.2.1, e0, 0⟩ (c.1.app k.1), k.2) := by
  rw [exM, if_neg (by rw [isM_ne hm (by decide)]; simp), if_pos hm] at h
  obtain ⟨c, hc, h⟩ := Option.bind_eq_some_iff.1 h
  obtain ⟨k, hk, h⟩ := Option.bind_eq_some_iff.1 h
  injection h with h
  exact ⟨c, k, hc, hk, by rw [← h, hp]⟩
theorem st_print (h : exM l (f + 1) .stmt b i = some r) (hp : p = i) (hm : isM l i kPrint = true) : closeM l f 11 p (i + 1, b) = some r := by
  rw [exM, if_neg (by rw [isM_ne hm (by decide)]; simp), if_neg (by rw [isM_ne hm (by decide)]; simp), if_neg (by rw [isM_ne hm (by decide)]; simp)] at h
  dsimp only at h
  rw [if_pos hm] at h
  rw [hp]
  exact h
theorem st_return (h : exM l (f + 1) .stmt b i = some r) (hp : p = i) (hm : isM l i kReturn = true) : closeM l f 12 p (i + 1, b) = some r := by
  rw [exM, if_neg (by rw [isM_ne hm (by decide)]; simp), if_neg (by rw [isM_ne hm (by decide)]; simp), if_neg (by rw [isM_ne hm (by decide)]; simp)] at h
  dsimp only at h
  rw [if_neg (by rw [isM_ne hm (by decide)]; simp), if_pos hm] at h
  rw [hp]
  exact h
theorem st_do (h : exM l (f + 1) .stmt b i = some r) (hp : p = i) (h1 : isM l i kLet = false) (h2 : isM l i kIf = false) (h3 : isM l i kWhile = false) (h4 : isM l i kPrint = false) (h5 : isM l i kReturn = false) (h6 : ¬ (kindAt l i = 1 ∧ isM l (i + 1) sEq = true)) : closeM l f 13 p (i, b) = some r := by
  rw [exM, if_neg (by rw [h2]; simp), if_neg (by rw [h3]; simp), if_neg (by rw [h1]; simp)] at h
  dsimp only at h
  rw [if_neg (by rw [h4]; simp), if_neg (by rw [h5]; simp), if_neg h6] at h
  rw [hp]
  exact h
theorem other_bad {s : Sd} (hb : 0 ≤ s.2) (h : otherM l f s = some r) : r.2.2 = s.2 := by
  unfold otherM at h
  rw [if_neg (fun hh => by have := hh.1; omega)] at h
  injection h with h
  rw [← h]
end
set_option maxHeartbeats 8000000 in
set_option maxRecDepth 100000 in
theorem stmt_q (X : Cx) (P : Prop) (f : Nat) (IE : RuleQ X P (exR X f .expr) 268) (IB : RuleQ X P (exR X f .block) 225) (IW : RuleQ X P (wrtR X f) 224) (s : Sd) (w : World) (r : Fo × Sd) (hP : P) (hs : s.2 < 0) (hh : exR X (f + 1) .stmt s = some r) (hS : PSt X w s) :
    Calls Tryz.prog 253 #[X.p] w (NodeQ X w r) := by
  have L0 := Lib.hid ((LS.start hS).alloc w.heap.size rfl 38 zcc)
  have rr := hS.row.cell
  have hrb := hS.lt
  have hl := hS.len
  have hpl := hS.pos_lt
  have hp : pos X s = s.1 := pos_good hs
  rw [hp] at rr hpl
  obtain ⟨p, hpp⟩ : ∃ p, p = s.1 := ⟨_, rfl⟩
  obtain ⟨z, hz⟩ : ∃ z, z = (hasK X s 1 && isM X.l (s.1 + 1) sEq) := ⟨_, rfl⟩
  have HZZ := Lib.hid hz
  rw [← hpp] at rr hpl
  have HP := Lib.hid hpp
  have HH := Lib.hid hh
  have HS := Lib.hid hs
  have IE := Lib.hid IE
  have IB := Lib.hid IB
  have IW := Lib.hid IW
  clear hp hpp hh hS hs hz
  go_enter Tryz.func253, Tryz.ntmps253
  go_upto_region 2 with fail
  go_cut [8] from 8 to 16 (fun s8 wx => s8 = .bool z ∧ Hid (LS X w wx s [(w.heap.size, 38, zcc)] [] (.slice none 0 0) .nil))
  case first =>
    have CH := has_any X s 1 _ L0.out.st (by decide) (by decide)
    cases qh : hasK X s 1
    · rw [qh] at CH
      have CK := Lib.hid CH
      have hz : z = false := by rw [HZZ.out, qh]; rfl
      subst hz
      clear CH qh
      go_wp2_with fail
      refine CK.out.mono ?_
      rintro e wa ⟨rfl, hbw⟩
      have LA := Lib.hid (L0.out.other hbw)
      clear hbw CK
      go_wp2_with fail
      go_meet
      exact ⟨rfl, LA.out⟩
    · rw [qh] at CH
      have CK := Lib.hid CH
      obtain ⟨_, hk⟩ := hasK_good qh
      have hnx := kindAt_next L0.out.st.wf.toWf (i := s.1) (by omega)
      obtain ⟨j, hj⟩ : ∃ j, j = s.1 + 1 := ⟨_, rfl⟩
      have hz : z = isM X.l j sEq := by rw [HZZ.out, qh, hj]; rfl
      rw [← hj] at hnx
      have CT := Lib.hid (fun w' h => tells_any X s j ⟨#[61]⟩ w' h hnx (by decide))
      have hp := HP.out
      have e1 : IntKind.i64.wrap ((p : Int) + 1) = (j : Int) := by rw [IntKind.wrap_i64]; omega
      have HZ2 := Lib.hid hz
      clear CH qh hk hj hz hp hnx
      go_wp2_with fail
      refine CK.out.mono ?_
      rintro e wa ⟨rfl, hbw⟩
      have LA := Lib.hid (L0.out.other hbw)
      clear hbw CK
      go_wp2_with fail
      refine (CT.out _ LA.out.st).mono ?_
      rintro e wb ⟨rfl, hbw⟩
      have LB := Lib.hid (LA.out.other hbw)
      clear hbw CT
      go_wp2_with fail
      go_meet
      exact ⟨by rw [HZ2.out]; rfl, LB.out⟩
  case rest =>
  obtain ⟨rfl, LZ⟩ := hcut
  clear L0
  cases qz : z
  · have HZ : Hid (¬ (kindAt X.l s.1 = 1 ∧ isM X.l (s.1 + 1) sEq = true)) := fun hh => by
      have h1 := HZZ.out
      have : hasK X s 1 = true := by unfold hasK; rw [decide_eq_true HS.out, decide_eq_true hh.1]; rfl
      rw [qz, this, hh.2] at h1
      cases h1
    subst qz
    clear HZZ
    cases q1 : tk X s kLet
    · have CT := Lib.hid (take_no X s ⟨#[108, 101, 116]⟩ _ LZ.out.st (by decide) q1)
      go_wp2_with fail
      refine CT.out.mono ?_
      rintro e w1 ⟨rfl, hSw, hFw⟩
      have L1 := Lib.hid (LZ.out.step hSw hFw)
      clear hSw hFw CT
      have Q1 := Lib.hid (tk_bad q1)
      clear q1
      cases q2 : tk X s kIf
      · have CT := Lib.hid (take_no X s ⟨#[105, 102]⟩ _ L1.out.st (by decide) q2)
        go_wp2_with fail
        refine CT.out.mono ?_
        rintro e w2 ⟨rfl, hSw, hFw⟩
        have L2 := Lib.hid (L1.out.step hSw hFw)
        clear hSw hFw CT
        have Q2 := Lib.hid (tk_bad q2)
        clear q2
        cases q3 : tk X s kWhile
        · have CT := Lib.hid (take_no X s ⟨#[119, 104, 105, 108, 101]⟩ _ L2.out.st (by decide) q3)
          go_wp2_with fail
          refine CT.out.mono ?_
          rintro e w3 ⟨rfl, hSw, hFw⟩
          have L3 := Lib.hid (L2.out.step hSw hFw)
          clear hSw hFw CT
          have Q3 := Lib.hid (tk_bad q3)
          clear q3
          cases q4 : tk X s kPrint
          · have CT := Lib.hid (take_no X s ⟨#[112, 114, 105, 110, 116]⟩ _ L3.out.st (by decide) q4)
            go_wp2_with fail
            refine CT.out.mono ?_
            rintro e w4 ⟨rfl, hSw, hFw⟩
            have L4 := Lib.hid (L3.out.step hSw hFw)
            clear hSw hFw CT
            have Q4 := Lib.hid (tk_bad q4)
            clear q4
            cases q5 : tk X s kReturn
            · have CT := Lib.hid (take_no X s ⟨#[114, 101, 116, 117, 114, 110]⟩ _ L4.out.st (by decide) q5)
              go_wp2_with fail
              refine CT.out.mono ?_
              rintro e w5 ⟨rfl, hSw, hFw⟩
              have L5 := Lib.hid (L4.out.step hSw hFw)
              clear hSw hFw CT
              have Q5 := Lib.hid (tk_bad q5)
              clear q5
              have hc := st_do HH.out HP.out (Q1.out.resolve_left (by have := HS.out; omega)) (Q2.out.resolve_left (by have := HS.out; omega)) (Q3.out.resolve_left (by have := HS.out; omega)) (Q4.out.resolve_left (by have := HS.out; omega)) (Q5.out.resolve_left (by have := HS.out; omega)) HZ.out
              have hs := HS.out
              have CC : Hid (∀ w', PSt X w' s → Calls Tryz.prog 270 #[X.p, .int .i64 13, .int .i64 p] w' (NodeQ X w' r)) := fun w' h => closed_q X P f IE.out 13 p s w' r (fun _ => ⟨hP, hc⟩) (fun h => absurd h (by omega)) h
              clear hs hc Q1 Q2 Q3 Q4 Q5 HZ HH HS HP IE IB IW
              go_wp2_with fail
              refine (CC.out _ L5.out.st).mono ?_
              rintro e wb ⟨h1, k1, A1, c1, rfl, hKw, hSw, hFw, hN1⟩
              obtain ⟨x11, x12, x13, x14, x15⟩ := h1
              have LX := Lib.hid (L5.out.kid hSw hFw hKw)
              have HN1 := Lib.hid hN1
              clear hSw hFw hKw hN1
              have u1 := (LX.out.row 0 rfl).cell
              have u2 := (LX.out.row 0 rfl).thaw
              have LY := Lib.hid (LX.out.put6 0 rfl rfl (.int .i64 x11) (.int .i64 x12) (.int .i64 x13) (.string x14) (.int .i64 x15) (.slice A1 k1.len c1))
              go_wp2
              refine bodyPost_ret ?_ rfl ⟨⟨x11, x12, x13, x14, x15⟩, k1, A1, c1, rfl, (LY.out.kidP 0 rfl).new_ (fun g h => h.1), LY.out.st, LY.out.fr, HN1.out⟩
              simp [results, Tryz.results253, go_sem, u1]
              try first | rfl | exact ⟨rfl, rfl⟩
            · obtain ⟨hg, hm⟩ := tk_good q5
              have hc := st_return HH.out HP.out hm
              have CC : Hid (∀ w', PSt X w' (s.1 + 1, s.2) → Calls Tryz.prog 270 #[X.p, .int .i64 12, .int .i64 p] w' (NodeQ X w' r)) := fun w' h => closed_q X P f IE.out 12 p (s.1 + 1, s.2) w' r (fun _ => ⟨hP, hc⟩) (fun h => absurd h (by dsimp only; omega)) h
              clear hg hm hc
              have CT := Lib.hid (take_yes X s ⟨#[114, 101, 116, 117, 114, 110]⟩ _ L4.out.st (by decide) q5)
              go_wp2_with fail
              refine CT.out.mono ?_
              rintro e wa ⟨rfl, hSw, hFw⟩
              have LA := Lib.hid (L4.out.step hSw hFw)
              clear hSw hFw CT
              clear q5 HH HS HP IE IB IW
              go_wp2_with fail
              refine (CC.out _ LA.out.st).mono ?_
              rintro e wb ⟨h1, k1, A1, c1, rfl, hKw, hSw, hFw, hN1⟩
              obtain ⟨x11, x12, x13, x14, x15⟩ := h1
              have LX := Lib.hid (LA.out.kid hSw hFw hKw)
              have HN1 := Lib.hid hN1
              clear hSw hFw hKw hN1
              have u1 := (LX.out.row 0 rfl).cell
              have u2 := (LX.out.row 0 rfl).thaw
              have LY := Lib.hid (LX.out.put6 0 rfl rfl (.int .i64 x11) (.int .i64 x12) (.int .i64 x13) (.string x14) (.int .i64 x15) (.slice A1 k1.len c1))
              go_wp2
              refine bodyPost_ret ?_ rfl ⟨⟨x11, x12, x13, x14, x15⟩, k1, A1, c1, rfl, (LY.out.kidP 0 rfl).new_ (fun g h => h.1), LY.out.st, LY.out.fr, HN1.out⟩
              simp [results, Tryz.results253, go_sem, u1]
              try first | rfl | exact ⟨rfl, rfl⟩
          · obtain ⟨hg, hm⟩ := tk_good q4
            have hc := st_print HH.out HP.out hm
            have CC : Hid (∀ w', PSt X w' (s.1 + 1, s.2) → Calls Tryz.prog 270 #[X.p, .int .i64 11, .int .i64 p] w' (NodeQ X w' r)) := fun w' h => closed_q X P f IE.out 11 p (s.1 + 1, s.2) w' r (fun _ => ⟨hP, hc⟩) (fun h => absurd h (by dsimp only; omega)) h
            clear hg hm hc
            have CT := Lib.hid (take_yes X s ⟨#[112, 114, 105, 110, 116]⟩ _ L3.out.st (by decide) q4)
            go_wp2_with fail
            refine CT.out.mono ?_
            rintro e wa ⟨rfl, hSw, hFw⟩
            have LA := Lib.hid (L3.out.step hSw hFw)
            clear hSw hFw CT
            clear q4 HH HS HP IE IB IW
            go_wp2_with fail
            refine (CC.out _ LA.out.st).mono ?_
            rintro e wb ⟨h1, k1, A1, c1, rfl, hKw, hSw, hFw, hN1⟩
            obtain ⟨x11, x12, x13, x14, x15⟩ := h1
            have LX := Lib.hid (LA.out.kid hSw hFw hKw)
            have HN1 := Lib.hid hN1
            clear hSw hFw hKw hN1
            have u1 := (LX.out.row 0 rfl).cell
            have u2 := (LX.out.row 0 rfl).thaw
            have LY := Lib.hid (LX.out.put6 0 rfl rfl (.int .i64 x11) (.int .i64 x12) (.int .i64 x13) (.string x14) (.int .i64 x15) (.slice A1 k1.len c1))
            go_wp2
            refine bodyPost_ret ?_ rfl ⟨⟨x11, x12, x13, x14, x15⟩, k1, A1, c1, rfl, (LY.out.kidP 0 rfl).new_ (fun g h => h.1), LY.out.st, LY.out.fr, HN1.out⟩
            simp [results, Tryz.results253, go_sem, u1]
            try first | rfl | exact ⟨rfl, rfl⟩
        · obtain ⟨hg, hm⟩ := tk_good q3
          obtain ⟨c, k, hc, hk, hr⟩ := st_while HH.out HP.out hm
          have C1 : Hid (∀ w', PSt X w' (s.1 + 1, s.2) → Calls Tryz.prog 268 #[X.p] w' (NodeQ X w' c)) := fun w' h => IE.out (s.1 + 1, s.2) w' c (fun _ => ⟨hP, hc⟩) (fun h => absurd h (by dsimp only; omega)) h
          have C2 : Hid (∀ w', PSt X w' c.2 → Calls Tryz.prog 225 #[X.p] w' (NodeQ X w' k)) := fun w' h => IB.out c.2 w' k (fun _ => ⟨hP, hk⟩) (fun h => exM_bad _ _ _ _ _ h hk) h
          have HG3 : Hid (k.2.2 < 0 → c.2.2 < 0) := fun h => exM_was hk h
          have HR2 := Lib.hid hr
          clear hg hm hc hk hr
          have CT := Lib.hid (take_yes X s ⟨#[119, 104, 105, 108, 101]⟩ _ L2.out.st (by decide) q3)
          go_wp2_with fail
          refine CT.out.mono ?_
          rintro e wa ⟨rfl, hSw, hFw⟩
          have LA := Lib.hid (L2.out.step hSw hFw)
          clear hSw hFw CT
          clear q3 HH HS HP IE IB IW
          go_wp2_with fail
          refine (C1.out _ LA.out.st).mono ?_
          rintro e wb ⟨h1, k1, A1, c1, rfl, hKw, hSw, hFw, hN1⟩
          obtain ⟨x11, x12, x13, x14, x15⟩ := h1
          have LB := Lib.hid (LA.out.kid hSw hFw hKw)
          have HN1 := Lib.hid hN1
          clear hSw hFw hKw hN1
          go_wp2_with fail
          refine (C2.out _ LB.out.st).mono ?_
          rintro e wc ⟨h2, k2, A2, c2, rfl, hKw, hSw, hFw, hN2⟩
          obtain ⟨x21, x22, x23, x24, x25⟩ := h2
          have LC := Lib.hid (LB.out.kid hSw hFw hKw)
          have HN2 := Lib.hid hN2
          clear hSw hFw hKw hN2
          have LE := Lib.hid (LC.out.slice wc.heap.size rfl (KV.two (h1 := ⟨x11, x12, x13, x14, x15⟩) (h2 := ⟨x21, x22, x23, x24, x25⟩) (LC.out.kidP 1 rfl) (LC.out.kidP 0 rfl)))
          have HR : Hid (k.2.2 < 0 → r = (.one ⟨10, p, pos X k.2, e0, 0⟩ ((Fo.one ⟨x11, x12, x13, x14, x15⟩ k1).app (.one ⟨x21, x22, x23, x24, x25⟩ k2)), k.2)) := fun h => by
            rw [HR2.out, HN1.out (HG3.out h), HN2.out h, pos_good h]
          have HB : Hid (0 ≤ k.2.2 → r.2.2 = k.2.2) := fun h => by rw [HR2.out]
          clear C1 C2 HG3 HR2 HN1 HN2
          go_wp2_with fail
          refine (node_any X k.2 10 p (some ⟨wc.heap.size, 0, none⟩) 2 2 _ LE.out.st).mono ?_
          rintro e wf ⟨rfl, hbw⟩
          have LFb := Lib.hid (LE.out.other hbw)
          have u1 := (LFb.out.row 0 rfl).cell
          have u2 := (LFb.out.row 0 rfl).thaw
          have LF := Lib.hid (LFb.out.put6 0 rfl rfl (.int .i64 10) (.int .i64 p) (.int .i64 (pos X k.2)) (.string e0) (.int .i64 0) (.slice (some ⟨wc.heap.size, 0, none⟩) 2 2))
          clear hbw
          go_wp2
          refine bodyPost_ret ?_ rfl ⟨⟨10, p, pos X k.2, e0, 0⟩, ((Fo.one ⟨x11, x12, x13, x14, x15⟩ k1).app (.one ⟨x21, x22, x23, x24, x25⟩ k2)), some ⟨wc.heap.size, 0, none⟩, 2, rfl, (LF.out.kidP 0 rfl).new_ (fun g h => h.1), PSt.to LF.out.st (fun h => by rw [HR.out h]) HB.out, LF.out.fr, ?_⟩
          · simp [results, Tryz.results253, go_sem, u1]
            try first | rfl | exact ⟨rfl, rfl⟩
          · intro hh
            rw [HR.out (by by_cases h : (k.2 : Sd).2 < 0; exact h; rw [HB.out (by omega)] at hh; exact absurd hh h)]
      · obtain ⟨hg, hm⟩ := tk_good q2
        obtain ⟨c, k, o, hc, hk, ho, hr⟩ := st_if HH.out HP.out hm
        have C1 : Hid (∀ w', PSt X w' (s.1 + 1, s.2) → Calls Tryz.prog 268 #[X.p] w' (NodeQ X w' c)) := fun w' h => IE.out (s.1 + 1, s.2) w' c (fun _ => ⟨hP, hc⟩) (fun h => absurd h (by dsimp only; omega)) h
        have C2 : Hid (∀ w', PSt X w' c.2 → Calls Tryz.prog 225 #[X.p] w' (NodeQ X w' k)) := fun w' h => IB.out c.2 w' k (fun _ => ⟨hP, hk⟩) (fun h => exM_bad _ _ _ _ _ h hk) h
        have C3 : Hid (∀ w', PSt X w' k.2 → Calls Tryz.prog 269 #[X.p] w' (NodeQ X w' o)) := fun w' h => other_q X P f IB.out k.2 w' o (fun _ => ⟨hP, ho⟩) (fun h => other_bad h ho) h
        have HG3 : Hid (o.2.2 < 0 → k.2.2 < 0 ∧ c.2.2 < 0) := fun h => by
          have g2 : k.2.2 < 0 := by
            by_cases hh : 0 ≤ k.2.2
            · have := other_bad hh ho; omega
            · omega
          exact ⟨g2, exM_was hk g2⟩
        have HR2 := Lib.hid hr
        clear hg hm hc hk ho hr
        have CT := Lib.hid (take_yes X s ⟨#[105, 102]⟩ _ L1.out.st (by decide) q2)
        go_wp2_with fail
        refine CT.out.mono ?_
        rintro e wa ⟨rfl, hSw, hFw⟩
        have LA := Lib.hid (L1.out.step hSw hFw)
        clear hSw hFw CT
        clear q2 HH HS HP IE IB IW
        go_wp2_with fail
        refine (C1.out _ LA.out.st).mono ?_
        rintro e wb ⟨h1, k1, A1, c1, rfl, hKw, hSw, hFw, hN1⟩
        obtain ⟨x11, x12, x13, x14, x15⟩ := h1
        have LB := Lib.hid (LA.out.kid hSw hFw hKw)
        have HN1 := Lib.hid hN1
        clear hSw hFw hKw hN1
        go_wp2_with fail
        refine (C2.out _ LB.out.st).mono ?_
        rintro e wc ⟨h2, k2, A2, c2, rfl, hKw, hSw, hFw, hN2⟩
        obtain ⟨x21, x22, x23, x24, x25⟩ := h2
        have LC := Lib.hid (LB.out.kid hSw hFw hKw)
        have HN2 := Lib.hid hN2
        clear hSw hFw hKw hN2
        go_wp2_with fail
        refine (C3.out _ LC.out.st).mono ?_
        rintro e wd ⟨h3, k3, A3, c3, rfl, hKw, hSw, hFw, hN3⟩
        obtain ⟨x31, x32, x33, x34, x35⟩ := h3
        have LD := Lib.hid (LC.out.kid hSw hFw hKw)
        have HN3 := Lib.hid hN3
        clear hSw hFw hKw hN3
        have LE := Lib.hid (LD.out.slice wd.heap.size rfl (KV.three (h1 := ⟨x11, x12, x13, x14, x15⟩) (h2 := ⟨x21, x22, x23, x24, x25⟩) (h3 := ⟨x31, x32, x33, x34, x35⟩) (LD.out.kidP 2 rfl) (LD.out.kidP 1 rfl) (LD.out.kidP 0 rfl)))
        have HR : Hid (o.2.2 < 0 → r = (.one ⟨9, p, pos X o.2, e0, 0⟩ ((Fo.one ⟨x11, x12, x13, x14, x15⟩ k1).app ((Fo.one ⟨x21, x22, x23, x24, x25⟩ k2).app (.one ⟨x31, x32, x33, x34, x35⟩ k3))), o.2)) := fun h => by
          obtain ⟨g2, g1⟩ := HG3.out h
          rw [HR2.out, HN1.out g1, HN2.out g2, HN3.out h, pos_good h]
        have HB : Hid (0 ≤ o.2.2 → r.2.2 = o.2.2) := fun h => by rw [HR2.out]
        clear C1 C2 C3 HG3 HR2 HN1 HN2 HN3
        go_wp2_with fail
        refine (node_any X o.2 9 p (some ⟨wd.heap.size, 0, none⟩) 3 3 _ LE.out.st).mono ?_
        rintro e wf ⟨rfl, hbw⟩
        have LFb := Lib.hid (LE.out.other hbw)
        have u1 := (LFb.out.row 0 rfl).cell
        have u2 := (LFb.out.row 0 rfl).thaw
        have LF := Lib.hid (LFb.out.put6 0 rfl rfl (.int .i64 9) (.int .i64 p) (.int .i64 (pos X o.2)) (.string e0) (.int .i64 0) (.slice (some ⟨wd.heap.size, 0, none⟩) 3 3))
        clear hbw
        go_wp2
        refine bodyPost_ret ?_ rfl ⟨⟨9, p, pos X o.2, e0, 0⟩, ((Fo.one ⟨x11, x12, x13, x14, x15⟩ k1).app ((Fo.one ⟨x21, x22, x23, x24, x25⟩ k2).app (.one ⟨x31, x32, x33, x34, x35⟩ k3))), some ⟨wd.heap.size, 0, none⟩, 3, rfl, (LF.out.kidP 0 rfl).new_ (fun g h => h.1), PSt.to LF.out.st (fun h => by rw [HR.out h]) HB.out, LF.out.fr, ?_⟩
        · simp [results, Tryz.results253, go_sem, u1]
          try first | rfl | exact ⟨rfl, rfl⟩
        · intro hh
          rw [HR.out (by by_cases h : (o.2 : Sd).2 < 0; exact h; rw [HB.out (by omega)] at hh; exact absurd hh h)]
    · obtain ⟨hg, hm⟩ := tk_good q1
      obtain ⟨t, v, ht, hv, hr⟩ := st_let HH.out HP.out hm
      have CC : Hid (∀ w', PSt X w' (s.1 + 1, s.2) → Calls Tryz.prog 267 #[X.p, .int .i64 p] w' (NodeQ X w' r)) := fun w' h => let_q X P f IE.out IW.out p (s.1 + 1, s.2) w' r t v hP ht hv hr h
      clear hg hm ht hv hr
      have CT := Lib.hid (take_yes X s ⟨#[108, 101, 116]⟩ _ LZ.out.st (by decide) q1)
      go_wp2_with fail
      refine CT.out.mono ?_
      rintro e wa ⟨rfl, hSw, hFw⟩
      have LA := Lib.hid (LZ.out.step hSw hFw)
      clear hSw hFw CT
      clear q1 HH HS HP IE IB IW
      go_wp2_with fail
      refine (CC.out _ LA.out.st).mono ?_
      rintro e wb ⟨h1, k1, A1, c1, rfl, hKw, hSw, hFw, hN1⟩
      obtain ⟨x11, x12, x13, x14, x15⟩ := h1
      have LX := Lib.hid (LA.out.kid hSw hFw hKw)
      have HN1 := Lib.hid hN1
      clear hSw hFw hKw hN1
      have u1 := (LX.out.row 0 rfl).cell
      have u2 := (LX.out.row 0 rfl).thaw
      have LY := Lib.hid (LX.out.put6 0 rfl rfl (.int .i64 x11) (.int .i64 x12) (.int .i64 x13) (.string x14) (.int .i64 x15) (.slice A1 k1.len c1))
      go_wp2
      refine bodyPost_ret ?_ rfl ⟨⟨x11, x12, x13, x14, x15⟩, k1, A1, c1, rfl, (LY.out.kidP 0 rfl).new_ (fun g h => h.1), LY.out.st, LY.out.fr, HN1.out⟩
      simp [results, Tryz.results253, go_sem, u1]
      try first | rfl | exact ⟨rfl, rfl⟩
  · have h1 := HZZ.out
    rw [qz, eq_comm, Bool.and_eq_true] at h1
    obtain ⟨hg, hk⟩ := hasK_good h1.1
    obtain ⟨v, hv, hr⟩ := st_word HH.out HP.out hg hk h1.2
    have CC : Hid (∀ w', PSt X w' s → Calls Tryz.prog 266 #[X.p, .int .i64 p] w' (NodeQ X w' r)) := fun w' h => set_q X P f IE.out p s w' r v hP hg hk h1.2 hv hr h
    subst qz
    clear h1 hg hk hv hr HZZ HH HS HP IE IB IW
    go_wp2_with fail
    refine (CC.out _ LZ.out.st).mono ?_
    rintro e wb ⟨h1, k1, A1, c1, rfl, hKw, hSw, hFw, hN1⟩
    obtain ⟨x11, x12, x13, x14, x15⟩ := h1
    have LX := Lib.hid (LZ.out.kid hSw hFw hKw)
    have HN1 := Lib.hid hN1
    clear hSw hFw hKw hN1
    have u1 := (LX.out.row 0 rfl).cell
    have u2 := (LX.out.row 0 rfl).thaw
    have LY := Lib.hid (LX.out.put6 0 rfl rfl (.int .i64 x11) (.int .i64 x12) (.int .i64 x13) (.string x14) (.int .i64 x15) (.slice A1 k1.len c1))
    go_wp2
    refine bodyPost_ret ?_ rfl ⟨⟨x11, x12, x13, x14, x15⟩, k1, A1, c1, rfl, (LY.out.kidP 0 rfl).new_ (fun g h => h.1), LY.out.st, LY.out.fr, HN1.out⟩
    simp [results, Tryz.results253, go_sem, u1]
    try first | rfl | exact ⟨rfl, rfl⟩
end Pg
end Go.Proofs.YthjflofcgdfekaaGreatDoor
