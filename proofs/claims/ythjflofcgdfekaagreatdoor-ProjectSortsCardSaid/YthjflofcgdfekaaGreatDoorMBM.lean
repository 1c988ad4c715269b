import Derived.Test.YthjflofcgdfekaaGreatDoorMBA
import Derived.Deep.LoopGhost
import Derived.Deep.RegionWith
import Derived.Test.YthjflofcgdfekaaGreatDoorGT
namespace Go.Proofs.YthjflofcgdfekaaGreatDoor
open Go.RowKit
namespace Pg
open Ps
set_option maxHeartbeats 4000000 in
set_option maxRecDepth 100000 in
theorem expr_q (X : Cx) (P : Prop) (f : Nat) (IS : RuleQ X P (exR X f .sum) 280) : RuleQ X P (exR X (f + 1) .expr) 268 := by
  intro s w r hr1 hr2 hS
  obtain ⟨a, ha1, ha2, hb, hfr, hno, hyes⟩ := expr_pure hr1 hr2
  have L0 := Lib.hid ((LS.start hS).alloc w.heap.size rfl 38 zcc)
  have rr := hS.row.cell
  have hrb := hS.lt
  have hl := hS.len
  have C1 : Hid (∀ w', PSt X w' s → Calls Tryz.prog 280 #[X.p] w' (NodeQ X w' a)) := fun w' h => IS s w' a ha1 ha2 h
  have HI := Lib.hid IS
  have HB := Lib.hid hb
  have HFR := Lib.hid hfr
  have HNO := Lib.hid hno
  have HYES := Lib.hid hyes
  clear hr1 hr2 ha1 ha2 hb hfr hno hyes hS IS
  obtain ⟨af, a2⟩ := a
  dsimp only at *
  generalize pos X s = p at *
  go_enter Tryz.func268, Tryz.ntmps268
  go_wp2_with fail
  refine (C1.out _ L0.out.st).mono ?_
  rintro e w1 ⟨h1, k1, A1, c1, rfl, hK1, hS1, hF1, hN1⟩
  have L1 := Lib.hid ((L0.out.kid hS1 hF1 hK1).alloc w1.heap.size rfl 38 (ncc h1 A1 k1.len c1))
  have HN1 := Lib.hid hN1
  obtain ⟨x1, x2, x3, x4, x5⟩ := h1
  clear hS1 hF1 hK1 hN1 rr C1
  dsimp only at *
  cases q14 : tk X a2 sLess
  · have CT := Lib.hid (take_no X a2 ⟨#[60]⟩ _ L1.out.st (by decide) q14)
    have Q14 := Lib.hid (tk_bad q14)
    clear q14
    go_wp2_with fail
    refine CT.out.mono ?_
    rintro e wa ⟨rfl, hSa, hFa⟩
    have LA := Lib.hid (L1.out.step hSa hFa)
    clear hSa hFa CT
    cases q15 : tk X a2 sEqEq
    · have CT := Lib.hid (take_no X a2 ⟨#[61, 61]⟩ _ LA.out.st (by decide) q15)
      have Q15 := Lib.hid (tk_bad q15)
      have HFIN : Hid ((0 ≤ a2.2 → r.2.2 = a2.2) ∧ (a2.2 < 0 → r = (.one ⟨x1, x2, x3, x4, x5⟩ k1, a2))) := by
        constructor
        · exact HB.out
        · intro h
          rw [HNO.out h (Q14.out.resolve_left (by omega)) (Q15.out.resolve_left (by omega))]
          rw [HN1.out h]
      clear q15 HB HNO HYES HFR HN1 HI Q14 Q15
      go_wp2_with fail
      refine CT.out.mono ?_
      rintro e wb ⟨rfl, hSb, hFb⟩
      have LB := Lib.hid (LA.out.step hSb hFb)
      have n1 := (LB.out.row 0 rfl).cell
      have m1 := (LB.out.row 1 rfl).cell
      have m2 := (LB.out.row 1 rfl).thaw
      have LC := Lib.hid (LB.out.put6 1 rfl rfl (.int .i64 x1) (.int .i64 x2) (.int .i64 x3) (.string x4) (.int .i64 x5) (.slice A1 k1.len c1))
      clear hSb hFb CT
      go_wp2
      refine bodyPost_ret ?_ rfl ⟨⟨x1, x2, x3, x4, x5⟩, k1, A1, c1, rfl, (LC.out.kidP 0 rfl).new_ (fun g h => h.1), ?_, LC.out.fr, ?_⟩
      · simp [results, Tryz.results268, go_sem, m1]
      · exact PSt.to LC.out.st (fun h => by rw [HFIN.out.2 h]) HFIN.out.1
      · intro hh
        by_cases h : a2.2 < 0
        · rw [HFIN.out.2 h]
        · rw [HFIN.out.1 (by omega)] at hh; exact absurd hh h
    · skip
      obtain ⟨hg, hm⟩ := tk_good q15
      obtain ⟨c, hc, hrc⟩ := HYES.out hg sEqEq 15 (.inr ⟨rfl, rfl⟩) hm
      have hP := (HFR.out hg).1
      have hfrom := (HFR.out hg).2
      have hone := HN1.out hg
      have CT := Lib.hid (take_yes X a2 ⟨#[61, 61]⟩ _ LA.out.st (by decide) q15)
      have C2 : Hid (∀ w', PSt X w' (a2.1 + 1, a2.2) → Calls Tryz.prog 280 #[X.p] w' (NodeQ X w' c)) := fun w' h => HI.out (a2.1 + 1, a2.2) w' c (fun _ => ⟨hP, hc⟩) (fun h => absurd h (by dsimp only; omega)) h
      subst hone
      have HRC := Lib.hid hrc
      have HFROM := Lib.hid hfrom
      clear HI HB HFR HNO HYES HN1 hc hrc hfrom q15 hm hg hP
      obtain ⟨cf, c2⟩ := c
      dsimp only at *
      go_wp2_with fail
      refine CT.out.mono ?_
      rintro e w2 ⟨rfl, hS2, hF2⟩
      have L2 := Lib.hid (LA.out.step hS2 hF2)
      clear hS2 hF2
      go_wp2_with fail
      have L2d : Hid (LS X w w2.drew (a2.1 + 1, a2.2) _ _ _ _) := L2.out.other ((Below.refl _ _).drew)
      have HS0 := (L2d.out.row 0 rfl).cell
      go_region_held3 (fun w' => ∀ o, w'.cell? ⟨w1.heap.size, o, none⟩ = (ncc ⟨x1, x2, x3, x4, x5⟩ A1 k1.len c1)[o]?)
        (first
          | (with_reducible exact HSd)
          | (with_reducible exact HSc)
          | (with_reducible exact HSb)
          | (with_reducible exact HSa)
          | (with_reducible exact HS0))
        (first
          | (go_at_call 280; refine (C2.out _ L2d.out.st).mono ?_; rintro e w3 ⟨h3, k3, A3, c3, rfl, hK3, hS3, hF3, hN3⟩; obtain ⟨y1, y2, y3, y4, y5⟩ := h3; have L3 := Lib.hid (L2d.out.kid hS3 hF3 hK3); have HSa := (L3.out.row 0 rfl).cell; have L4 := Lib.hid (L3.out.slice w3.heap.size rfl (KV.two (h1 := ⟨x1, x2, x3, x4, x5⟩) (h2 := ⟨y1, y2, y3, y4, y5⟩) (L3.out.kidP 1 rfl) (L3.out.kidP 0 rfl))); have HSb := (L4.out.row 0 rfl).cell)
          | (go_at_call 172; refine (node_any X c2 15 p (some ⟨w3.heap.size, 0, none⟩) 2 2 _ L4.out.st).mono ?_; rintro e w5 ⟨rfl, hb5⟩; have L5 := Lib.hid (L4.out.other hb5); have HSc := (L5.out.row 0 rfl).cell; have L6 := Lib.hid (L5.out.put6 1 rfl rfl (.int .i64 15) (.int .i64 p) (.int .i64 (pos X c2)) (.string e0) (.int .i64 0) (.slice (some ⟨w3.heap.size, 0, none⟩) 2 2)); have HSd := (L6.out.row 0 rfl).cell; have z1 := (L5.out.row 1 rfl).cell; have z2 := (L5.out.row 1 rfl).thaw)
          | fail)
      go_wp2
      refine bodyPost_ret ?_ rfl ⟨⟨15, p, pos X c2, e0, 0⟩, _, some ⟨w3.heap.size, 0, none⟩, 2, rfl, (L6.out.kidP 0 rfl).new_ (fun g h => h.1), (by rw [HRC.out]; exact L6.out.st), L6.out.fr, ?_⟩
      · simp [results, Tryz.results268, go_sem, z1]
        rfl
      · intro hh
        have hh' : c2.2 < 0 := by rw [HRC.out] at hh; exact hh
        rw [HRC.out, HFROM.out, hN3 hh', pos_good hh']
  · skip
    obtain ⟨hg, hm⟩ := tk_good q14
    obtain ⟨c, hc, hrc⟩ := HYES.out hg sLess 14 (.inl ⟨rfl, rfl⟩) hm
    have hP := (HFR.out hg).1
    have hfrom := (HFR.out hg).2
    have hone := HN1.out hg
    have CT := Lib.hid (take_yes X a2 ⟨#[60]⟩ _ L1.out.st (by decide) q14)
    have C2 : Hid (∀ w', PSt X w' (a2.1 + 1, a2.2) → Calls Tryz.prog 280 #[X.p] w' (NodeQ X w' c)) := fun w' h => HI.out (a2.1 + 1, a2.2) w' c (fun _ => ⟨hP, hc⟩) (fun h => absurd h (by dsimp only; omega)) h
    subst hone
    have HRC := Lib.hid hrc
    have HFROM := Lib.hid hfrom
    clear HI HB HFR HNO HYES HN1 hc hrc hfrom q14 hm hg hP
    obtain ⟨cf, c2⟩ := c
    dsimp only at *
    go_wp2_with fail
    refine CT.out.mono ?_
    rintro e w2 ⟨rfl, hS2, hF2⟩
    have L2 := Lib.hid (L1.out.step hS2 hF2)
    clear hS2 hF2
    go_wp2_with fail
    have L2d : Hid (LS X w w2.drew (a2.1 + 1, a2.2) _ _ _ _) := L2.out.other ((Below.refl _ _).drew)
    have HS0 := (L2d.out.row 0 rfl).cell
    go_region_held3 (fun w' => ∀ o, w'.cell? ⟨w1.heap.size, o, none⟩ = (ncc ⟨x1, x2, x3, x4, x5⟩ A1 k1.len c1)[o]?)
      (first
        | (with_reducible exact HSd)
        | (with_reducible exact HSc)
        | (with_reducible exact HSb)
        | (with_reducible exact HSa)
        | (with_reducible exact HS0))
      (first
        | (go_at_call 280; refine (C2.out _ L2d.out.st).mono ?_; rintro e w3 ⟨h3, k3, A3, c3, rfl, hK3, hS3, hF3, hN3⟩; obtain ⟨y1, y2, y3, y4, y5⟩ := h3; have L3 := Lib.hid (L2d.out.kid hS3 hF3 hK3); have HSa := (L3.out.row 0 rfl).cell; have L4 := Lib.hid (L3.out.slice w3.heap.size rfl (KV.two (h1 := ⟨x1, x2, x3, x4, x5⟩) (h2 := ⟨y1, y2, y3, y4, y5⟩) (L3.out.kidP 1 rfl) (L3.out.kidP 0 rfl))); have HSb := (L4.out.row 0 rfl).cell)
        | (go_at_call 172; refine (node_any X c2 14 p (some ⟨w3.heap.size, 0, none⟩) 2 2 _ L4.out.st).mono ?_; rintro e w5 ⟨rfl, hb5⟩; have L5 := Lib.hid (L4.out.other hb5); have HSc := (L5.out.row 0 rfl).cell; have L6 := Lib.hid (L5.out.put6 1 rfl rfl (.int .i64 14) (.int .i64 p) (.int .i64 (pos X c2)) (.string e0) (.int .i64 0) (.slice (some ⟨w3.heap.size, 0, none⟩) 2 2)); have HSd := (L6.out.row 0 rfl).cell; have z1 := (L5.out.row 1 rfl).cell; have z2 := (L5.out.row 1 rfl).thaw)
        | fail)
    go_wp2
    refine bodyPost_ret ?_ rfl ⟨⟨14, p, pos X c2, e0, 0⟩, _, some ⟨w3.heap.size, 0, none⟩, 2, rfl, (L6.out.kidP 0 rfl).new_ (fun g h => h.1), (by rw [HRC.out]; exact L6.out.st), L6.out.fr, ?_⟩
    · simp [results, Tryz.results268, go_sem, z1]
      rfl
    · intro hh
      have hh' : c2.2 < 0 := by rw [HRC.out] at hh; exact hh
      rw [HRC.out, HFROM.out, hN3 hh', pos_good hh']
end Pg
end Go.Proofs.YthjflofcgdfekaaGreatDoor
namespace Go.Proofs.YthjflofcgdfekaaGreatDoor
open Go.RowKit
namespace Pg
open Ps
theorem sumL_end {l : List Tok} {f : Nat} {a : Fo} {b : Int} {i : Nat} {r : Fo × Nat × Int} (h : exM l f (.sumL a) b i = some r) (h16 : isM l i sPlus = false) (h17 : isM l i sMinus = false) : r = (a, i, b) := by
  cases f with
  | zero => rw [exM] at h; cases h
  | succ f =>
    rw [exM, if_neg (by simp [h16, h17])] at h
    injection h with h; exact h.symm
theorem sumL_go16 {l : List Tok} {f : Nat} {a : Fo} {b : Int} {i : Nat} {r : Fo × Nat × Int} (h : exM l f (.sumL a) b i = some r) (hb : b < 0) (hm : isM l i sPlus = true) :
    ∃ f' c, f = f' + 1 ∧ exM l f' .term b (i + 1) = some c ∧ exM l f' (.sumL (.one ⟨16, a.from_, c.2.1, e0, 0⟩ (a.app c.1))) c.2.2 c.2.1 = some r := by
  cases f with
  | zero => rw [exM] at h; cases h
  | succ f =>
    rw [exM, if_pos ⟨hb, .inl hm⟩, show (if isM l i sMinus = true then 17 else 16) = 16 from if_neg (by rw [isM_ne hm (by decide)]; simp)] at h
    obtain ⟨c, h1, h2⟩ := Option.bind_eq_some_iff.1 h
    exact ⟨f, c, rfl, h1, h2⟩
theorem sumL_go17 {l : List Tok} {f : Nat} {a : Fo} {b : Int} {i : Nat} {r : Fo × Nat × Int} (h : exM l f (.sumL a) b i = some r) (hb : b < 0) (hm : isM l i sMinus = true) :
    ∃ f' c, f = f' + 1 ∧ exM l f' .term b (i + 1) = some c ∧ exM l f' (.sumL (.one ⟨17, a.from_, c.2.1, e0, 0⟩ (a.app c.1))) c.2.2 c.2.1 = some r := by
  cases f with
  | zero => rw [exM] at h; cases h
  | succ f =>
    rw [exM, if_pos ⟨hb, .inr hm⟩, show (if isM l i sMinus = true then 17 else 16) = 17 from if_pos hm] at h
    obtain ⟨c, h1, h2⟩ := Option.bind_eq_some_iff.1 h
    exact ⟨f, c, rfl, h1, h2⟩
set_option maxHeartbeats 4000000 in
set_option maxRecDepth 100000 in
theorem sum_q (X : Cx) (P : Prop) (f : Nat) (I : ∀ f', f' ≤ f → RuleQ X P (exR X f' .term) 287) : RuleQ X P (exR X (f + 1) .sum) 280 := by
  intro s w r hr1 hr2 hS
  obtain ⟨a, ha1, ha2, hb, hfr⟩ : ∃ a : Fo × Sd, (s.2 < 0 → P ∧ exR X f .term s = some a) ∧ (0 ≤ s.2 → a.2.2 = s.2) ∧ (0 ≤ a.2.2 → r.2.2 = a.2.2) ∧ (a.2.2 < 0 → P ∧ a.1.from_ = pos X s ∧ exM X.l f (.sumL a.1) a.2.2 a.2.1 = some r) := by
    by_cases hs : 0 ≤ s.2
    · exact ⟨(.nil, s), fun h => absurd h (by omega), fun _ => rfl, fun _ => hr2 hs, fun h => absurd h (by dsimp only; omega)⟩
    · obtain ⟨hP, h⟩ := hr1 (by omega)
      unfold exR at h
      rw [exM] at h
      obtain ⟨a, ha, h⟩ := Option.bind_eq_some_iff.1 h
      exact ⟨a, fun _ => ⟨hP, ha⟩, fun h => absurd h hs, fun hb => exM_bad _ _ _ _ _ hb h, fun hb => ⟨hP, by rw [pos_good (by omega)]; exact exM_from _ _ _ _ _ _ rfl ha hb, h⟩⟩
  have L0 := Lib.hid ((LS.start hS).alloc w.heap.size rfl 38 zcc)
  have rr := hS.row.cell
  have hrb := hS.lt
  have hl := hS.len
  have hpl := hS.pos_lt
  have C1 : Hid (∀ w', PSt X w' s → Calls Tryz.prog 287 #[X.p] w' (NodeQ X w' a)) := fun w' h => I f (Nat.le_refl _) s w' a ha1 ha2 h
  have HI := Lib.hid I
  have HB := Lib.hid hb
  have HFR := Lib.hid hfr
  clear hr1 hr2 ha1 ha2 hb hfr hS I
  obtain ⟨af, a2⟩ := a
  dsimp only at *
  generalize pos X s = p at *
  go_enter Tryz.func280, Tryz.ntmps280
  go_wp2_with fail
  refine (C1.out _ L0.out.st).mono ?_
  rintro e w1 ⟨h1, k1, A1, c1, rfl, hK1, hS1, hF1, hN1⟩
  have L1 := Lib.hid ((L0.out.kid hS1 hF1 hK1).alloc w1.heap.size rfl 38 (ncc h1 A1 k1.len c1))
  obtain ⟨x1, x2, x3, x4, x5⟩ := h1
  have INV0 : Hid (InvL X P r p f .sumL a2 ⟨x1, x2, x3, x4, x5⟩ k1) := by
    refine ⟨fun h => ?_, HB.out⟩
    obtain ⟨g1, g2, g3⟩ := HFR.out h
    have := hN1 h
    dsimp only at this
    rw [this] at g2 g3
    exact ⟨g1, g2, g3⟩
  clear hS1 hF1 hK1 hN1 rr C1 HB HFR
  dsimp only at *
  go_wp2_with fail
  go_loopg [12] (f + 1) (fun kx s3 wr => ∃ (fk : Nat) (sk : Sd) (u : Value) (y1 y2 y3 : Nat) (y4 : ByteArray) (y5 : Nat) (k : Fo) (A : Option Addr) (c : Nat), u = s3 ∧ fk ≤ kx ∧ fk ≤ f ∧ Hid (InvL X P r p fk .sumL sk ⟨y1, y2, y3, y4, y5⟩ k) ∧ Hid (LS X w wr sk [(w1.heap.size, 38, ncc ⟨y1, y2, y3, y4, y5⟩ A k.len c), (w.heap.size, 38, zcc)] [(k, A, c)] (.slice none 0 0) .nil))
  case atStart => exact ⟨f, a2, _, x1, x2, x3, x4, x5, k1, A1, c1, rfl, by omega, by omega, INV0.out, L1.out⟩
  case round =>
    obtain ⟨fk, sk, u, y1, y2, y3, y4, y5, k, A, c, rfl, hkx, hfk, HG, LK⟩ := hrel
    cases q16 : tk X sk sPlus
    · have CT := Lib.hid (take_no X sk ⟨#[43]⟩ _ LK.out.st (by decide) q16)
      have Q16 := Lib.hid (tk_bad q16)
      clear q16
      go_wp2_with fail
      refine CT.out.mono ?_
      rintro e wa16 ⟨rfl, hSa, hFa⟩
      have LA16 := Lib.hid (LK.out.step hSa hFa)
      clear hSa hFa CT
      cases q17 : tk X sk sMinus
      · have CT := Lib.hid (take_no X sk ⟨#[45]⟩ _ LA16.out.st (by decide) q17)
        have Q17 := Lib.hid (tk_bad q17)
        clear q17
        go_wp2_with fail
        refine CT.out.mono ?_
        rintro e wa17 ⟨rfl, hSa, hFa⟩
        have LA17 := Lib.hid (LA16.out.step hSa hFa)
        clear hSa hFa CT
        have HFIN : Hid (sk.2 < 0 → r = (.one ⟨y1, y2, y3, y4, y5⟩ k, sk)) := fun h => by
          have := sumL_end (HG.out.1 h).2.2 (Q16.out.resolve_left (by omega)) (Q17.out.resolve_left (by omega))
          rw [this]
        have HBAD := Lib.hid HG.out.2
        have m1 := (LA17.out.row 1 rfl).cell
        have m2 := (LA17.out.row 1 rfl).thaw
        have n1 := (LA17.out.row 0 rfl).cell
        have LC := Lib.hid (LA17.out.put6 1 rfl rfl (.int .i64 y1) (.int .i64 y2) (.int .i64 y3) (.string y4) (.int .i64 y5) (.slice A k.len c))
        clear HG Q16 Q17
        go_wp2
        refine bodyPost_ret ?_ rfl ⟨⟨y1, y2, y3, y4, y5⟩, k, A, c, rfl, (LC.out.kidP 0 rfl).new_ (fun g h => h.1), PSt.to LC.out.st (fun h => by rw [HFIN.out h]) HBAD.out, LC.out.fr, ?_⟩
        · simp [results, Tryz.results280, go_sem, m1]
        · intro hh
          by_cases h : sk.2 < 0
          · rw [HFIN.out h]
          · rw [HBAD.out (by omega)] at hh; exact absurd hh h
      · obtain ⟨hg, hm⟩ := tk_good q17
        obtain ⟨hP, hfr, hex⟩ := HG.out.1 hg
        obtain ⟨f', c, hf', hc, hcont⟩ := sumL_go17 hex hg hm
        have CT := Lib.hid (take_yes X sk ⟨#[45]⟩ _ LA16.out.st (by decide) q17)
        have C2 : Hid (∀ w', PSt X w' (sk.1 + 1, sk.2) → Calls Tryz.prog 287 #[X.p] w' (NodeQ X w' c)) := fun w' h => HI.out f' (by omega) (sk.1 + 1, sk.2) w' c (fun _ => ⟨hP, hc⟩) (fun h => absurd h (by dsimp only; omega)) h
        have HCONT := Lib.hid hcont
        have HP := Lib.hid hP
        have HFR := Lib.hid hfr
        have HF := Lib.hid hf'
        clear HG hc hcont hf' q17 hm hg hP hex hfr
        obtain ⟨cf, c2⟩ := c
        dsimp only at *
        go_wp2_with fail
        refine CT.out.mono ?_
        rintro e w2 ⟨rfl, hS2, hF2⟩
        have L2 := Lib.hid (LA16.out.step hS2 hF2)
        clear hS2 hF2
        go_wp2_with fail
        have L2d : Hid (LS X w w2.drew (sk.1 + 1, sk.2) _ _ _ _) := L2.out.other ((Below.refl _ _).drew)
        have HS0 := (L2d.out.row 0 rfl).cell
        go_region_with (first
            | (go_at_call 287; refine (C2.out _ L2d.out.st).mono ?_; rintro e w3 ⟨h3, k3, A3, c3, rfl, hK3, hS3, hF3, hN3⟩; obtain ⟨z1, z2, z3, z4, z5⟩ := h3; have L3 := Lib.hid (L2d.out.kid hS3 hF3 hK3); have HSa := (L3.out.row 0 rfl).cell; have L4 := Lib.hid (L3.out.slice w3.heap.size rfl (KV.two (h1 := ⟨y1, y2, y3, y4, y5⟩) (h2 := ⟨z1, z2, z3, z4, z5⟩) (L3.out.kidP 1 rfl) (L3.out.kidP 0 rfl))))
            | (go_at_call 172; refine (node_any X c2 17 p (some ⟨w3.heap.size, 0, none⟩) 2 2 _ L4.out.st).mono ?_; rintro e w5 ⟨rfl, hb5⟩; have L5 := Lib.hid (L4.out.other hb5); have L6 := Lib.hid (L5.out.put6 0 rfl rfl (.int .i64 17) (.int .i64 p) (.int .i64 (pos X c2)) (.string e0) (.int .i64 0) (.slice (some ⟨w3.heap.size, 0, none⟩) 2 2)); have u1 := (L5.out.row 0 rfl).cell; have u2 := (L5.out.row 0 rfl).thaw)
            | fail)
        all_goals
          have hf'' := HF.out
          have INV : Hid (InvL X P r p f' .sumL c2 ⟨17, p, pos X c2, e0, 0⟩ ((Fo.one ⟨y1, y2, y3, y4, y5⟩ k).app (.one ⟨z1, z2, z3, z4, z5⟩ k3))) := by
            refine ⟨fun h => ⟨HP.out, rfl, ?_⟩, fun h => exM_bad _ _ _ _ _ h HCONT.out⟩
            have h1 := HCONT.out
            rw [hN3 h] at h1
            rw [pos_good h, ← HFR.out]
            exact h1
          have L7 := Lib.hid L6.out.K1
          clear HCONT HP HFR HF u1 L2 L2d L3 L4 L5 L6
          go_wp2_with fail
          go_roundg f'
          case measure => omega
          case rel => exact ⟨f', c2, _, 17, p, pos X c2, e0, 0, (Fo.one ⟨y1, y2, y3, y4, y5⟩ k).app (.one ⟨z1, z2, z3, z4, z5⟩ k3), some ⟨w3.heap.size, 0, none⟩, 2, rfl, by omega, by omega, INV.out, L7.out⟩
    · obtain ⟨hg, hm⟩ := tk_good q16
      obtain ⟨hP, hfr, hex⟩ := HG.out.1 hg
      obtain ⟨f', c, hf', hc, hcont⟩ := sumL_go16 hex hg hm
      have CT := Lib.hid (take_yes X sk ⟨#[43]⟩ _ LK.out.st (by decide) q16)
      have C2 : Hid (∀ w', PSt X w' (sk.1 + 1, sk.2) → Calls Tryz.prog 287 #[X.p] w' (NodeQ X w' c)) := fun w' h => HI.out f' (by omega) (sk.1 + 1, sk.2) w' c (fun _ => ⟨hP, hc⟩) (fun h => absurd h (by dsimp only; omega)) h
      have HCONT := Lib.hid hcont
      have HP := Lib.hid hP
      have HFR := Lib.hid hfr
      have HF := Lib.hid hf'
      clear HG hc hcont hf' q16 hm hg hP hex hfr
      obtain ⟨cf, c2⟩ := c
      dsimp only at *
      go_wp2_with fail
      refine CT.out.mono ?_
      rintro e w2 ⟨rfl, hS2, hF2⟩
      have L2 := Lib.hid (LK.out.step hS2 hF2)
      clear hS2 hF2
      go_wp2_with fail
      have L2d : Hid (LS X w w2.drew (sk.1 + 1, sk.2) _ _ _ _) := L2.out.other ((Below.refl _ _).drew)
      have HS0 := (L2d.out.row 0 rfl).cell
      go_region_with (first
          | (go_at_call 287; refine (C2.out _ L2d.out.st).mono ?_; rintro e w3 ⟨h3, k3, A3, c3, rfl, hK3, hS3, hF3, hN3⟩; obtain ⟨z1, z2, z3, z4, z5⟩ := h3; have L3 := Lib.hid (L2d.out.kid hS3 hF3 hK3); have HSa := (L3.out.row 0 rfl).cell; have L4 := Lib.hid (L3.out.slice w3.heap.size rfl (KV.two (h1 := ⟨y1, y2, y3, y4, y5⟩) (h2 := ⟨z1, z2, z3, z4, z5⟩) (L3.out.kidP 1 rfl) (L3.out.kidP 0 rfl))))
          | (go_at_call 172; refine (node_any X c2 16 p (some ⟨w3.heap.size, 0, none⟩) 2 2 _ L4.out.st).mono ?_; rintro e w5 ⟨rfl, hb5⟩; have L5 := Lib.hid (L4.out.other hb5); have L6 := Lib.hid (L5.out.put6 0 rfl rfl (.int .i64 16) (.int .i64 p) (.int .i64 (pos X c2)) (.string e0) (.int .i64 0) (.slice (some ⟨w3.heap.size, 0, none⟩) 2 2)); have u1 := (L5.out.row 0 rfl).cell; have u2 := (L5.out.row 0 rfl).thaw)
          | fail)
      all_goals
        have hf'' := HF.out
        have INV : Hid (InvL X P r p f' .sumL c2 ⟨16, p, pos X c2, e0, 0⟩ ((Fo.one ⟨y1, y2, y3, y4, y5⟩ k).app (.one ⟨z1, z2, z3, z4, z5⟩ k3))) := by
          refine ⟨fun h => ⟨HP.out, rfl, ?_⟩, fun h => exM_bad _ _ _ _ _ h HCONT.out⟩
          have h1 := HCONT.out
          rw [hN3 h] at h1
          rw [pos_good h, ← HFR.out]
          exact h1
        have L7 := Lib.hid L6.out.K1
        clear HCONT HP HFR HF u1 L2 L2d L3 L4 L5 L6
        go_wp2_with fail
        go_roundg f'
        case measure => omega
        case rel => exact ⟨f', c2, _, 16, p, pos X c2, e0, 0, (Fo.one ⟨y1, y2, y3, y4, y5⟩ k).app (.one ⟨z1, z2, z3, z4, z5⟩ k3), some ⟨w3.heap.size, 0, none⟩, 2, rfl, by omega, by omega, INV.out, L7.out⟩
theorem termL_end {l : List Tok} {f : Nat} {a : Fo} {b : Int} {i : Nat} {r : Fo × Nat × Int} (h : exM l f (.termL a) b i = some r) (h18 : isM l i sStar = false) : r = (a, i, b) := by
  cases f with
  | zero => rw [exM] at h; cases h
  | succ f =>
    rw [exM, if_neg (by simp [h18])] at h
    injection h with h; exact h.symm
theorem termL_go18 {l : List Tok} {f : Nat} {a : Fo} {b : Int} {i : Nat} {r : Fo × Nat × Int} (h : exM l f (.termL a) b i = some r) (hb : b < 0) (hm : isM l i sStar = true) :
    ∃ f' c, f = f' + 1 ∧ exM l f' .post b (i + 1) = some c ∧ exM l f' (.termL (.one ⟨18, a.from_, c.2.1, e0, 0⟩ (a.app c.1))) c.2.2 c.2.1 = some r := by
  cases f with
  | zero => rw [exM] at h; cases h
  | succ f =>
    rw [exM, if_pos ⟨hb, hm⟩] at h
    obtain ⟨c, h1, h2⟩ := Option.bind_eq_some_iff.1 h
    exact ⟨f, c, rfl, h1, h2⟩
set_option maxHeartbeats 4000000 in
set_option maxRecDepth 100000 in
theorem term_q (X : Cx) (P : Prop) (f : Nat) (I : ∀ f', f' ≤ f → RuleQ X P (exR X f' .post) 290) : RuleQ X P (exR X (f + 1) .term) 287 := by
  intro s w r hr1 hr2 hS
  obtain ⟨a, ha1, ha2, hb, hfr⟩ : ∃ a : Fo × Sd, (s.2 < 0 → P ∧ exR X f .post s = some a) ∧ (0 ≤ s.2 → a.2.2 = s.2) ∧ (0 ≤ a.2.2 → r.2.2 = a.2.2) ∧ (a.2.2 < 0 → P ∧ a.1.from_ = pos X s ∧ exM X.l f (.termL a.1) a.2.2 a.2.1 = some r) := by
    by_cases hs : 0 ≤ s.2
    · exact ⟨(.nil, s), fun h => absurd h (by omega), fun _ => rfl, fun _ => hr2 hs, fun h => absurd h (by dsimp only; omega)⟩
    · obtain ⟨hP, h⟩ := hr1 (by omega)
      unfold exR at h
      rw [exM] at h
      obtain ⟨a, ha, h⟩ := Option.bind_eq_some_iff.1 h
      exact ⟨a, fun _ => ⟨hP, ha⟩, fun h => absurd h hs, fun hb => exM_bad _ _ _ _ _ hb h, fun hb => ⟨hP, by rw [pos_good (by omega)]; exact exM_from _ _ _ _ _ _ rfl ha hb, h⟩⟩
  have L0 := Lib.hid ((LS.start hS).alloc w.heap.size rfl 38 zcc)
  have rr := hS.row.cell
  have hrb := hS.lt
  have hl := hS.len
  have hpl := hS.pos_lt
  have C1 : Hid (∀ w', PSt X w' s → Calls Tryz.prog 290 #[X.p] w' (NodeQ X w' a)) := fun w' h => I f (Nat.le_refl _) s w' a ha1 ha2 h
  have HI := Lib.hid I
  have HB := Lib.hid hb
  have HFR := Lib.hid hfr
  clear hr1 hr2 ha1 ha2 hb hfr hS I
  obtain ⟨af, a2⟩ := a
  dsimp only at *
  generalize pos X s = p at *
  go_enter Tryz.func287, Tryz.ntmps287
  go_wp2_with fail
  refine (C1.out _ L0.out.st).mono ?_
  rintro e w1 ⟨h1, k1, A1, c1, rfl, hK1, hS1, hF1, hN1⟩
  have L1 := Lib.hid ((L0.out.kid hS1 hF1 hK1).alloc w1.heap.size rfl 38 (ncc h1 A1 k1.len c1))
  obtain ⟨x1, x2, x3, x4, x5⟩ := h1
  have INV0 : Hid (InvL X P r p f .termL a2 ⟨x1, x2, x3, x4, x5⟩ k1) := by
    refine ⟨fun h => ?_, HB.out⟩
    obtain ⟨g1, g2, g3⟩ := HFR.out h
    have := hN1 h
    dsimp only at this
    rw [this] at g2 g3
    exact ⟨g1, g2, g3⟩
  clear hS1 hF1 hK1 hN1 rr C1 HB HFR
  dsimp only at *
  go_wp2_with fail
  go_loopg [12] (f + 1) (fun kx s3 wr => ∃ (fk : Nat) (sk : Sd) (u : Value) (y1 y2 y3 : Nat) (y4 : ByteArray) (y5 : Nat) (k : Fo) (A : Option Addr) (c : Nat), u = s3 ∧ fk ≤ kx ∧ fk ≤ f ∧ Hid (InvL X P r p fk .termL sk ⟨y1, y2, y3, y4, y5⟩ k) ∧ Hid (LS X w wr sk [(w1.heap.size, 38, ncc ⟨y1, y2, y3, y4, y5⟩ A k.len c), (w.heap.size, 38, zcc)] [(k, A, c)] (.slice none 0 0) .nil))
  case atStart => exact ⟨f, a2, _, x1, x2, x3, x4, x5, k1, A1, c1, rfl, by omega, by omega, INV0.out, L1.out⟩
  case round =>
    obtain ⟨fk, sk, u, y1, y2, y3, y4, y5, k, A, c, rfl, hkx, hfk, HG, LK⟩ := hrel
    cases q18 : tk X sk sStar
    · have CT := Lib.hid (take_no X sk ⟨#[42]⟩ _ LK.out.st (by decide) q18)
      have Q18 := Lib.hid (tk_bad q18)
      clear q18
      go_wp2_with fail
      refine CT.out.mono ?_
      rintro e wa18 ⟨rfl, hSa, hFa⟩
      have LA18 := Lib.hid (LK.out.step hSa hFa)
      clear hSa hFa CT
      have HFIN : Hid (sk.2 < 0 → r = (.one ⟨y1, y2, y3, y4, y5⟩ k, sk)) := fun h => by
        have := termL_end (HG.out.1 h).2.2 (Q18.out.resolve_left (by omega))
        rw [this]
      have HBAD := Lib.hid HG.out.2
      have m1 := (LA18.out.row 1 rfl).cell
      have m2 := (LA18.out.row 1 rfl).thaw
      have n1 := (LA18.out.row 0 rfl).cell
      have LC := Lib.hid (LA18.out.put6 1 rfl rfl (.int .i64 y1) (.int .i64 y2) (.int .i64 y3) (.string y4) (.int .i64 y5) (.slice A k.len c))
      clear HG Q18
      go_wp2
      refine bodyPost_ret ?_ rfl ⟨⟨y1, y2, y3, y4, y5⟩, k, A, c, rfl, (LC.out.kidP 0 rfl).new_ (fun g h => h.1), PSt.to LC.out.st (fun h => by rw [HFIN.out h]) HBAD.out, LC.out.fr, ?_⟩
      · simp [results, Tryz.results287, go_sem, m1]
      · intro hh
        by_cases h : sk.2 < 0
        · rw [HFIN.out h]
        · rw [HBAD.out (by omega)] at hh; exact absurd hh h
    · obtain ⟨hg, hm⟩ := tk_good q18
      obtain ⟨hP, hfr, hex⟩ := HG.out.1 hg
      obtain ⟨f', c, hf', hc, hcont⟩ := termL_go18 hex hg hm
      have CT := Lib.hid (take_yes X sk ⟨#[42]⟩ _ LK.out.st (by decide) q18)
      have C2 : Hid (∀ w', PSt X w' (sk.1 + 1, sk.2) → Calls Tryz.prog 290 #[X.p] w' (NodeQ X w' c)) := fun w' h => HI.out f' (by omega) (sk.1 + 1, sk.2) w' c (fun _ => ⟨hP, hc⟩) (fun h => absurd h (by dsimp only; omega)) h
      have HCONT := Lib.hid hcont
      have HP := Lib.hid hP
      have HFR := Lib.hid hfr
      have HF := Lib.hid hf'
      clear HG hc hcont hf' q18 hm hg hP hex hfr
      obtain ⟨cf, c2⟩ := c
      dsimp only at *
      go_wp2_with fail
      refine CT.out.mono ?_
      rintro e w2 ⟨rfl, hS2, hF2⟩
      have L2 := Lib.hid (LK.out.step hS2 hF2)
      clear hS2 hF2
      go_wp2_with fail
      have L2d : Hid (LS X w w2.drew (sk.1 + 1, sk.2) _ _ _ _) := L2.out.other ((Below.refl _ _).drew)
      have HS0 := (L2d.out.row 0 rfl).cell
      go_region_with (first
          | (go_at_call 290; refine (C2.out _ L2d.out.st).mono ?_; rintro e w3 ⟨h3, k3, A3, c3, rfl, hK3, hS3, hF3, hN3⟩; obtain ⟨z1, z2, z3, z4, z5⟩ := h3; have L3 := Lib.hid (L2d.out.kid hS3 hF3 hK3); have HSa := (L3.out.row 0 rfl).cell; have L4 := Lib.hid (L3.out.slice w3.heap.size rfl (KV.two (h1 := ⟨y1, y2, y3, y4, y5⟩) (h2 := ⟨z1, z2, z3, z4, z5⟩) (L3.out.kidP 1 rfl) (L3.out.kidP 0 rfl))))
          | (go_at_call 172; refine (node_any X c2 18 p (some ⟨w3.heap.size, 0, none⟩) 2 2 _ L4.out.st).mono ?_; rintro e w5 ⟨rfl, hb5⟩; have L5 := Lib.hid (L4.out.other hb5); have L6 := Lib.hid (L5.out.put6 0 rfl rfl (.int .i64 18) (.int .i64 p) (.int .i64 (pos X c2)) (.string e0) (.int .i64 0) (.slice (some ⟨w3.heap.size, 0, none⟩) 2 2)); have u1 := (L5.out.row 0 rfl).cell; have u2 := (L5.out.row 0 rfl).thaw)
          | fail)
      all_goals
        have hf'' := HF.out
        have INV : Hid (InvL X P r p f' .termL c2 ⟨18, p, pos X c2, e0, 0⟩ ((Fo.one ⟨y1, y2, y3, y4, y5⟩ k).app (.one ⟨z1, z2, z3, z4, z5⟩ k3))) := by
          refine ⟨fun h => ⟨HP.out, rfl, ?_⟩, fun h => exM_bad _ _ _ _ _ h HCONT.out⟩
          have h1 := HCONT.out
          rw [hN3 h] at h1
          rw [pos_good h, ← HFR.out]
          exact h1
        have L7 := Lib.hid L6.out.K1
        clear HCONT HP HFR HF u1 L2 L2d L3 L4 L5 L6
        go_wp2_with fail
        go_roundg f'
        case measure => omega
        case rel => exact ⟨f', c2, _, 18, p, pos X c2, e0, 0, (Fo.one ⟨y1, y2, y3, y4, y5⟩ k).app (.one ⟨z1, z2, z3, z4, z5⟩ k3), some ⟨w3.heap.size, 0, none⟩, 2, rfl, by omega, by omega, INV.out, L7.out⟩
end Pg
end Go.Proofs.YthjflofcgdfekaaGreatDoor
namespace Go.Proofs.YthjflofcgdfekaaGreatDoor
open Go.RowKit
namespace Pg
open Ps
theorem RuleQ.any {X : Cx} {M M' : Sd → Res} {fn : Nat} (h : RuleQ X False M fn) : RuleQ X False M' fn := fun s w r h1 h2 hS => h s w r (fun hs => absurd (h1 hs).1 id) h2 hS
theorem RuleQ.no0 {X : Cx} {P : Prop} {M M' : Sd → Res} {fn : Nat} (h : RuleQ X False M fn) (hM : ∀ s, M' s = Option.none) : RuleQ X P M' fn := fun s w r h1 h2 hS => h s w r (fun hs => by have := (h1 hs).2; rw [hM] at this; cases this) h2 hS
theorem ty_f (X : Cx) {M : Sd → Res} : RuleQ X False M 252 := (typed_q X False 0 (by omega) (fun h => h.elim)).any
theorem ty_all (X : Cx) : ∀ f, f ≤ 1000000 → RuleQ X True (tyR X f) 252 := by
  intro f
  induction f using Nat.strongRecOn with
  | _ f ih =>
    intro hf
    cases f with
    | zero => exact (ty_f X (M := fun _ => Option.none)).no0 (fun s => by unfold tyR; rw [tyM])
    | succ f => exact typed_q X True f (by omega) (fun _ f' h => ih f' (by omega) (by omega))
theorem wrt_all (X : Cx) (f : Nat) (hf : f ≤ 1000000) : RuleQ X True (wrtR X f) 224 := written_q X True f (ty_all X f hf)
theorem params_all (X : Cx) (f : Nat) (hf : f ≤ 1000000) : RuleQ X True (parmR X f) 223 := params_q X True f hf (fun f' h => param_q X True f' (wrt_all X f' (by omega)))
theorem atom_f (X : Cx) {M : Sd → Res} : RuleQ X False M 293 := (atom_q X False 0 (by omega) (fun h => h.elim) (fun h => h.elim) (fun h => h.elim) (fun h => h.elim)).any
theorem post_f (X : Cx) {M : Sd → Res} : RuleQ X False M 290 := (post_q X False 0 (by omega) (fun _ _ => atom_f X) (fun h => h.elim)).any
theorem term_f (X : Cx) {M : Sd → Res} : RuleQ X False M 287 := (term_q X False 0 (fun _ _ => post_f X)).any
theorem sum_f (X : Cx) {M : Sd → Res} : RuleQ X False M 280 := (sum_q X False 0 (fun _ _ => term_f X)).any
theorem expr_f (X : Cx) {M : Sd → Res} : RuleQ X False M 268 := (expr_q X False 0 (sum_f X)).any
theorem block_f (X : Cx) {M : Sd → Res} : RuleQ X False M 225 := (block_q X False 0 (by omega) (fun f' h => absurd h (by omega))).any
theorem exR_zero (X : Cx) (t : XT) (s : Sd) : exR X 0 t s = Option.none := by unfold exR; rw [exM]
structure AllQ (X : Cx) (f : Nat) : Prop where
  ex : RuleQ X True (exR X f .expr) 268
  su : RuleQ X True (exR X f .sum) 280
  te : RuleQ X True (exR X f .term) 287
  po : RuleQ X True (exR X f .post) 290
  at_ : RuleQ X True (exR X f .atom) 293
  bl : RuleQ X True (exR X f .block) 225
theorem all_q (X : Cx) : ∀ f, f ≤ 1000000 → AllQ X f := by
  intro f
  induction f using Nat.strongRecOn with
  | _ f ih =>
    intro hf
    cases f with
    | zero =>
      exact ⟨(expr_f X (M := fun _ => Option.none)).no0 (exR_zero X _), (sum_f X (M := fun _ => Option.none)).no0 (exR_zero X _), (term_f X (M := fun _ => Option.none)).no0 (exR_zero X _), (post_f X (M := fun _ => Option.none)).no0 (exR_zero X _), (atom_f X (M := fun _ => Option.none)).no0 (exR_zero X _), (block_f X (M := fun _ => Option.none)).no0 (exR_zero X _)⟩
    | succ f =>
      have I := fun f' (h : f' ≤ f) => ih f' (by omega) (by omega)
      exact ⟨expr_q X True f (I f (Nat.le_refl _)).su, sum_q X True f (fun f' h => (I f' h).te), term_q X True f (fun f' h => (I f' h).po), post_q X True f (by omega) (fun f' h => (I f' h).at_) (fun _ f' h => (I f' h).ex),
        atom_q X True f (by omega) (fun _ f' h => (I f' h).ex) (fun _ f' h => params_all X f' (by omega)) (fun _ f' h => wrt_all X f' (by omega)) (fun _ f' h => (I f' h).bl),
        block_q X True f (by omega) (fun f' h s w r hP hs hh hS => stmt_q X True f' (I f' (by omega)).ex (I f' (by omega)).bl (wrt_all X f' (by omega)) s w r hP hs hh hS)⟩
theorem file_all (X : Cx) (f : Nat) (hf : f ≤ 1000000) : RuleQ X True (fileR X f) 136 := file_q X True f hf (fun f' h s w r hP hs hh hS => item_q X True f' (fun f'' h' => params_all X f'' (by omega)) (fun f'' h' => wrt_all X f'' (by omega)) (fun f'' h' => (all_q X f'' (by omega)).bl) s w r hP hs hh hS)
end Pg
end Go.Proofs.YthjflofcgdfekaaGreatDoor
