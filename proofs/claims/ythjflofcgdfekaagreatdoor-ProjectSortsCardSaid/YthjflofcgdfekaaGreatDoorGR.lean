import Derived.Test.YthjflofcgdfekaaGreatDoorGQ
namespace Go.Proofs.YthjflofcgdfekaaGreatDoor
open Go.RowKit
namespace Pg
open Ps
def InvB (X : Cx) (P : Prop) (r : Fo × Sd) (p fk : Nat) (sk : Sd) (K : Fo) : Prop :=
  (sk.2 < 0 → P ∧ ∃ q : Fo × Sd, exM X.l fk .stmts sk.2 sk.1 = some q ∧ r = (.one ⟨6, p, (wantM X.l q.2.2 q.2.1 sShut).1, e0, 0⟩ (K.app q.1), wantM X.l q.2.2 q.2.1 sShut)) ∧ (0 ≤ sk.2 → r.2.2 = sk.2)
theorem block_pure {X : Cx} {P : Prop} {f : Nat} {s : Sd} {r : Fo × Sd} (h1 : s.2 < 0 → P ∧ exR X (f + 1) .block s = some r) (h2 : 0 ≤ s.2 → r.2.2 = s.2) : InvB X P r (pos X s) f (wantS X s sOpen) .nil := by
  by_cases hs : 0 ≤ s.2
  · rw [wantS_bad hs]
    exact ⟨fun h => absurd h (by omega), fun _ => h2 hs⟩
  · obtain ⟨hP, h⟩ := h1 (by omega)
    unfold exR at h
    rw [exM] at h
    dsimp only at h
    obtain ⟨q, hq, h⟩ := Option.bind_eq_some_iff.1 h
    injection h with h
    refine ⟨fun _ => ⟨hP, q, hq, by rw [← h, pos_good (by omega)]; rfl⟩, fun hb => ?_⟩
    have := exM_bad _ _ _ _ _ hb hq
    rw [← h]
    dsimp only
    rw [wantM_bad (by have : (wantS X s sOpen).2 = (wantM X.l s.2 s.1 sOpen).2 := rfl; omega)]
    exact this
theorem InvB.stop {X : Cx} {P : Prop} {r : Fo × Sd} {p fk : Nat} {sk : Sd} {K : Fo} (h : InvB X P r p fk sk K) (hb : sk.2 < 0) (hm : isM X.l sk.1 sShut = true) : r = (.one ⟨6, p, sk.1 + 1, e0, 0⟩ K, (sk.1 + 1, sk.2)) := by
  obtain ⟨hP, q, hq, hr⟩ := h.1 hb
  have hw : wantM X.l sk.2 sk.1 sShut = (sk.1 + 1, sk.2) := by unfold wantM; rw [if_neg (by omega), if_pos hm]
  cases fk with
  | zero => rw [exM] at hq; cases hq
  | succ fk =>
    rw [exM, if_neg (fun hh => hh.2 hm)] at hq
    injection hq with hq
    subst hq
    dsimp only at hr
    rw [hw, Fo.app_nil] at hr
    exact hr
theorem InvB.go {X : Cx} {P : Prop} {r : Fo × Sd} {p fk : Nat} {sk : Sd} {K : Fo} (h : InvB X P r p fk sk K) (hb : sk.2 < 0) (hm : isM X.l sk.1 sShut = false) :
    ∃ f' t, fk = f' + 1 ∧ P ∧ exM X.l f' .stmt sk.2 sk.1 = some t ∧ ∀ h k, (t.2.2 < 0 → t.1 = .one h k) → InvB X P r p f' t.2 (K.app (.one h k)) := by
  obtain ⟨hP, q, hq, hr⟩ := h.1 hb
  cases fk with
  | zero => rw [exM] at hq; cases hq
  | succ fk =>
    rw [exM, if_pos ⟨hb, by rw [hm]; simp⟩] at hq
    obtain ⟨t, ht, hq⟩ := Option.bind_eq_some_iff.1 hq
    obtain ⟨q', hq', e⟩ := Option.map_eq_some_iff.1 hq
    refine ⟨fk, t, rfl, hP, ht, fun h k hn => ⟨fun hg => ⟨hP, q', hq', ?_⟩, fun hg => ?_⟩⟩
    · rw [hr, ← e, hn hg, Fo.app_assoc]
    · rw [hr, ← e]
      dsimp only
      rw [exM_bad _ _ _ _ _ hg hq'] 
      have := exM_bad _ _ _ _ _ hg hq'
      rw [wantM_bad (by omega)]
set_option maxHeartbeats 8000000 in
set_option maxRecDepth 100000 in
theorem block_q (X : Cx) (P : Prop) (f : Nat) (hf : f ≤ 1000000) (I : ∀ f', f' + 1 ≤ f → ∀ (s : Sd) (w : World) (r : Fo × Sd), P → s.2 < 0 → exR X (f' + 1) .stmt s = some r → PSt X w s → Calls Tryz.prog 253 #[X.p] w (NodeQ X w r)) : RuleQ X P (exR X (f + 1) .block) 225 := by
  intro s w r hr1 hr2 hS
  have INV0 := Lib.hid (block_pure hr1 hr2)
  have L0 := Lib.hid ((LS.start hS).alloc w.heap.size rfl 38 zcc)
  have rr := hS.row.cell
  have hrb := hS.lt
  have hl := hS.len
  have hpl := hS.pos_lt
  have HI := Lib.hid I
  clear hr1 hr2 hS I
  generalize pos X s = p at *
  go_enter Tryz.func225, Tryz.ntmps225
  have CW := Lib.hid (want_any X s ⟨#[123]⟩ _ L0.out.st (by decide))
  go_wp2_with fail
  refine CW.out.mono ?_
  rintro e w1 ⟨rfl, hSw, hFw⟩
  have L1 := Lib.hid (L0.out.step hSw hFw)
  clear hSw hFw CW
  clear rr
  go_wp2_with fail
  go_loopg [4] (f + 1) (fun kx s4 wr => ∃ (fk : Nat) (sk : Sd) (K : Fo) (u : Value), u = s4 ∧ fk ≤ kx ∧ K.len + fk ≤ f ∧ Hid (InvB X P r p fk sk K) ∧ Hid (LS X w wr sk [(w.heap.size, 38, zcc)] [] s4 K))
  case atStart => exact ⟨f, wantS X s sOpen, .nil, _, rfl, by omega, by simp [Fo.len], INV0.out, L1.out⟩
  case round =>
    obtain ⟨fk, sk, K, u, rfl, hkx, hlen, HG, LK⟩ := hrel
    clear INV0 L1 L0
    have rk := LK.out.st.row.cell
    by_cases hs : 0 ≤ sk.2
    · rw [decide_eq_true hs] at rk
      have HBAD := Lib.hid (HG.out.2 hs)
      have HSS := Lib.hid hs
      clear hs
      go_wp2_with fail
      obtain ⟨A, cap, hv, hcap, _⟩ := LK.out.list
      subst hv
      have LD := Lib.hid LK.out.toKid
      have HB : Hid (0 ≤ sk.2 → r.2.2 = sk.2) := fun _ => HBAD.out
      have HR : Hid (sk.2 < 0 → r = (.one ⟨6, p, pos X sk, e0, 0⟩ K, sk)) := fun h => absurd h (by have := HSS.out; omega)
      clear HG LK HBAD HSS rk
      go_wp2_with fail
      refine (node_any X sk 6 p (A) K.len cap _ LD.out.st).mono ?_
      rintro e wd ⟨rfl, hbw⟩
      have LEb := Lib.hid (LD.out.other hbw)
      have u1 := (LEb.out.row 0 rfl).cell
      have u2 := (LEb.out.row 0 rfl).thaw
      have LE := Lib.hid (LEb.out.put6 0 rfl rfl (.int .i64 6) (.int .i64 p) (.int .i64 (pos X sk)) (.string e0) (.int .i64 0) (.slice (A) K.len cap))
      clear hbw
      go_wp2
      refine bodyPost_ret ?_ rfl ⟨⟨6, p, pos X sk, e0, 0⟩, K, A, cap, rfl, (LE.out.kidP 0 rfl).new_ (fun g h => h.1), PSt.to LE.out.st (fun h => by rw [HR.out h]) HB.out, LE.out.fr, ?_⟩
      · simp [results, Tryz.results225, go_sem, u1]
        try first | rfl | exact ⟨rfl, rfl⟩
      · intro hh
        rw [HR.out (by by_cases h : (sk : Sd).2 < 0; exact h; rw [HB.out (by omega)] at hh; exact absurd hh h)]
    · rw [decide_eq_false hs] at rk
      have hs' : sk.2 < 0 := by omega
      cases q1 : tk X sk sShut
      · have hm := (tk_bad q1).resolve_left hs
        obtain ⟨f', t, e1, hP, ht, hI⟩ := HG.out.go hs' hm
        have CT := Lib.hid (take_no X sk ⟨#[125]⟩ _ LK.out.st (by decide) q1)
        have C2 : Hid (∀ w', PSt X w' sk → Calls Tryz.prog 253 #[X.p] w' (NodeQ X w' t)) := fun w' h => by
          cases f' with
          | zero => rw [exM] at ht; cases ht
          | succ f' => exact HI.out f' (by omega) sk w' t hP hs' ht h
        have HINV2 := Lib.hid hI
        have HF := Lib.hid e1
        clear q1 hm hP ht hI e1 HG hs hs'
        go_wp2_with fail
        refine CT.out.mono ?_
        rintro e w3 ⟨rfl, hS3, hF3⟩
        have L4 := Lib.hid (LK.out.step hS3 hF3)
        clear hS3 hF3 CT rk
        go_wp2_with fail
        refine (C2.out _ L4.out.st).mono ?_
        rintro e w5 ⟨h5, k5, A5, c5, rfl, hK5, hS5, hF5, hN5⟩
        have INV := Lib.hid (HINV2.out h5 k5 hN5)
        obtain ⟨z1, z2, z3, z4, z5⟩ := h5
        have M6 := Lib.hid ((L4.out.kid hS5 hF5 hK5).other (bel1 _ (.cells (ncc ⟨z1, z2, z3, z4, z5⟩ A5 k5.len c5) 38)))
        obtain ⟨cs, o1, o2⟩ := M6.out.own
        have O1 := Lib.hid o1
        have O2 := Lib.hid o2
        obtain ⟨AK, cK, eK, hcK, _⟩ := M6.out.list
        subst eK
        obtain ⟨i0, hi0, hz0, hz1, hz2⟩ := info_parts info25
        have b5 := Lib.hid M6.out.size
        have b3' : K.len + 1 ≤ maxLen := by unfold maxLen; omega
        have b4' : (K.len + 1) * 72 ≤ 140737488355328 := by omega
        have CN := Lib.hid (cells_nd w5 (.int .i64 z1) (.int .i64 z2) (.int .i64 z3) (.string z4) (.int .i64 z5) (.slice A5 k5.len c5))
        clear o1 o2 hK5 hS5 hF5 hN5 HINV2 C2 L4
        go_wp2_with (at_builtin; refine wpList_append_at rfl (.tmp 21) (.tmp 24) 36 rfl w.heap.size 38 i0 (.agg #[.int .i64 0, .int .i64 0, .int .i64 0, .string ⟨#[]⟩, .int .i64 0, .slice none 0 0]) 6 72 Tryz.underlying36 hi0 hz0 hz1 hz2 rfl (by decide) _ K.len cs rfl O1.out ⟨w5.heap.size, 0, none⟩ 1 1 [.int .i64 z1, .int .i64 z2, .int .i64 z3, .string z4, .int .i64 z5, .slice A5 k5.len c5] rfl rfl (by simpa using CN.out) (one_nd ⟨z1, z2, z3, z4, z5⟩ _ _ _) b3' b4' b5.out ?_)
        intro v' w7 hown' hgrow hat
        have M7 := Lib.hid (M6.out.push ⟨O1.out, O2.out⟩ (k := .one ⟨z1, z2, z3, z4, z5⟩ k5) (FC.one (M6.out.kidP 0 rfl)) hown' hgrow (fun j hj => by
          rcases hat j hj with h | h
          · exact .inl h
          · exact .inr (by simpa using h))).noK
        have hKl : (K.app (.one ⟨z1, z2, z3, z4, z5⟩ k5)).len = K.len + 1 := by rw [Fo.len_app]; rfl
        have HKL := Lib.hid hKl
        have hf1 := HF.out
        clear hown' hgrow hat b3' b4' b5 CN O1 O2 M6 hKl
        go_wp2_with fail
        go_roundg f'
        case measure => omega
        case rel => exact ⟨f', t.2, K.app (.one ⟨z1, z2, z3, z4, z5⟩ k5), _, rfl, by omega, by rw [HKL.out]; omega, INV.out, M7.out⟩
      · obtain ⟨hg, hm⟩ := tk_good q1
        have hR := HG.out.stop hg hm
        have CT := Lib.hid (take_yes X sk ⟨#[125]⟩ _ LK.out.st (by decide) q1)
        have HR : Hid (((sk.1 + 1, sk.2) : Sd).2 < 0 → r = (.one ⟨6, p, pos X (sk.1 + 1, sk.2), e0, 0⟩ K, (sk.1 + 1, sk.2))) := fun h => by rw [hR, pos_good h]
        have HB : Hid (0 ≤ ((sk.1 + 1, sk.2) : Sd).2 → r.2.2 = ((sk.1 + 1, sk.2) : Sd).2) := fun h => absurd h (by dsimp only; omega)
        clear q1 hg hm hR HG hs hs'
        go_wp2_with fail
        refine CT.out.mono ?_
        rintro e w3 ⟨rfl, hS3, hF3⟩
        have L4 := Lib.hid (LK.out.step hS3 hF3)
        clear hS3 hF3 CT rk
        go_wp2_with fail
        obtain ⟨A, cap, hv, hcap, _⟩ := L4.out.list
        subst hv
        have LD := Lib.hid L4.out.toKid
        clear L4 LK
        go_wp2_with fail
        refine (node_any X (sk.1 + 1, sk.2) 6 p (A) K.len cap _ LD.out.st).mono ?_
        rintro e wd ⟨rfl, hbw⟩
        have LEb := Lib.hid (LD.out.other hbw)
        have u1 := (LEb.out.row 0 rfl).cell
        have u2 := (LEb.out.row 0 rfl).thaw
        have LE := Lib.hid (LEb.out.put6 0 rfl rfl (.int .i64 6) (.int .i64 p) (.int .i64 (pos X (sk.1 + 1, sk.2))) (.string e0) (.int .i64 0) (.slice (A) K.len cap))
        clear hbw
        go_wp2
        refine bodyPost_ret ?_ rfl ⟨⟨6, p, pos X (sk.1 + 1, sk.2), e0, 0⟩, K, A, cap, rfl, (LE.out.kidP 0 rfl).new_ (fun g h => h.1), PSt.to LE.out.st (fun h => by rw [HR.out h]) HB.out, LE.out.fr, ?_⟩
        · simp [results, Tryz.results225, go_sem, u1]
          try first | rfl | exact ⟨rfl, rfl⟩
        · intro hh
          rw [HR.out (by by_cases h : ((sk.1 + 1, sk.2) : Sd).2 < 0; exact h; rw [HB.out (by omega)] at hh; exact absurd hh h)]
end Pg
end Go.Proofs.YthjflofcgdfekaaGreatDoor
