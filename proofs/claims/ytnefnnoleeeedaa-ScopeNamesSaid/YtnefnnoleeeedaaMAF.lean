import Derived.Test.YtnefnnoleeeedaaMAE
namespace Go.Proofs.Ytnefnnoleeeedaa
open Go.RowKit
namespace Ps
set_option maxHeartbeats 8000000 in
set_option maxRecDepth 100000 in
theorem expr_c (X : Cx) (f : Nat) (IS : ExC X f .sum 101) : ExC X (f + 1) .expr 100 := by
  intro b i w r hr hS hi
  have L0 := Lib.hid ((LS.start hS).alloc w.heap.size rfl 25 zc)
  have hle := hS.wf.le
  have WF := Lib.hid hS.wf
  have hrb := hS.row.lt
  rw [exM] at hr
  obtain ⟨⟨af, p1, b1⟩, ha, hr⟩ := Option.bind_eq_some_iff.1 hr
  dsimp only at hr
  have C1 : Hid (∀ w', St X w' b → Calls Try.prog 101 #[X.p, .int .i64 i] w' fun e w'' => NodeP X w' (af, p1, b1) e w'') := fun w' h => IS b i w' _ ha h hi
  have HR := Lib.hid hr
  clear hS ha hr
  go_enter Try.func100, Try.ntmps100
  go_wp2_with fail
  refine (C1.out _ L0.out.st).mono ?_
  rintro e w1 ⟨h1, k1, A1, c1, e1, rfl, hK1, hS1, hF1, hl1⟩
  dsimp only at e1 hS1 hl1
  subst e1
  obtain ⟨x1, x2, x3, x4, x5⟩ := h1
  have L1 := Lib.hid ((L0.out.kid hS1 hF1 hK1).alloc w1.heap.size rfl 25 (nc ⟨x1, x2, x3, x4, x5⟩ A1 k1.len c1))
  have n1 := L1.out.st.row.cell
  have ISK := Lib.hid (fun (x : ByteArray) w' h => is_any X b1 p1 x w' h hl1)
  clear hS1 hF1 hK1
  obtain ⟨z, hz⟩ : ∃ z : Bool, (z = true ↔ (0 ≤ b1 ∨ (¬ isM X.l p1 sLess = true ∧ ¬ isM X.l p1 sEqEq = true))) := by
    by_cases h : 0 ≤ b1 ∨ (¬ isM X.l p1 sLess = true ∧ ¬ isM X.l p1 sEqEq = true)
    · exact ⟨true, fun _ => h, fun _ => rfl⟩
    · exact ⟨false, by simp only [Bool.false_eq_true, false_iff]; exact h⟩
  have HZ := Lib.hid hz
  clear hz
  go_upto_region 2 with fail
  go_cut [32] from 16 (fun s32 wx => s32 = .bool z ∧ Hid (LS X w wx b1 [(w1.heap.size, 25, nc ⟨x1, x2, x3, x4, x5⟩ A1 k1.len c1), (w.heap.size, 25, zc)] [(k1, A1, c1)] (.slice none 0 0) .nil))
  case first =>
    by_cases hb : 0 ≤ b1
    · have hb2 : b1 ≥ 0 := hb
      obtain rfl : z = true := HZ.out.2 (.inl hb)
      clear hb
      go_wp2_with fail
      go_meet
      exact ⟨rfl, L1.out⟩
    · have hb2 : ¬ b1 ≥ 0 := by omega
      have c1' := ISK.out ⟨#[60]⟩ _ L1.out.st
      cases h1 : isM X.l p1 sLess
      · rw [show isM X.l p1 (⟨#[60]⟩ : ByteArray).data.toList = false from h1] at c1'
        have CA := Lib.hid c1'
        clear c1'
        go_wp2_with fail
        refine CA.out.mono ?_
        rintro e w2 ⟨rfl, hb3⟩
        have L2 := Lib.hid (L1.out.other hb3)
        have c2' := ISK.out ⟨#[61, 61]⟩ _ L2.out.st
        clear hb3
        cases h2 : isM X.l p1 sEqEq
        · rw [show isM X.l p1 (⟨#[61, 61]⟩ : ByteArray).data.toList = false from h2] at c2'
          have CB := Lib.hid c2'
          obtain rfl : z = true := HZ.out.2 (.inr ⟨by rw [h1]; simp, by rw [h2]; simp⟩)
          clear c2' h1 h2 hb
          go_wp2_with fail
          refine CB.out.mono ?_
          rintro e w3 ⟨rfl, hb4⟩
          have L3 := Lib.hid (L2.out.other hb4)
          clear hb4
          go_wp2_with fail
          go_meet
          exact ⟨rfl, L3.out⟩
        · rw [show isM X.l p1 (⟨#[61, 61]⟩ : ByteArray).data.toList = true from h2] at c2'
          have CB := Lib.hid c2'
          obtain rfl : z = false := by
            cases z
            · rfl
            · rcases HZ.out.1 rfl with h | h
              · omega
              · exact absurd h2 h.2
          clear c2' h1 h2 hb
          go_wp2_with fail
          refine CB.out.mono ?_
          rintro e w3 ⟨rfl, hb4⟩
          have L3 := Lib.hid (L2.out.other hb4)
          clear hb4
          go_wp2_with fail
          go_meet
          exact ⟨rfl, L3.out⟩
      · rw [show isM X.l p1 (⟨#[60]⟩ : ByteArray).data.toList = true from h1] at c1'
        have CA := Lib.hid c1'
        obtain rfl : z = false := by
          cases z
          · rfl
          · rcases HZ.out.1 rfl with h | h
            · omega
            · exact absurd h1 h.1
        clear c1' h1 hb
        go_wp2_with fail
        refine CA.out.mono ?_
        rintro e w2 ⟨rfl, hb3⟩
        have L2 := Lib.hid (L1.out.other hb3)
        clear hb3
        go_wp2_with fail
        go_meet
        exact ⟨rfl, L2.out⟩
  case rest =>
  obtain ⟨rfl, LC⟩ := hcut
  clear n1
  cases z
  · have hnc : ¬ (0 ≤ b1 ∨ (¬ isM X.l p1 sLess = true ∧ ¬ isM X.l p1 sEqEq = true)) := fun hh => by have := HZ.out.2 hh; cases this
    have hr := HR.out
    rw [if_neg hnc] at hr
    obtain ⟨⟨cf, p2, b2⟩, hc, hr⟩ := Option.bind_eq_some_iff.1 hr
    dsimp only at hr
    have hnx : p1 + 1 < X.l.length := by
      by_cases h1 : isM X.l p1 sLess = true
      · exact isM_next WF.out h1
      · by_cases h2 : isM X.l p1 sEqEq = true
        · exact isM_next WF.out h2
        · exact absurd (.inr ⟨h1, h2⟩) hnc
    obtain ⟨j, hj⟩ : ∃ j, j = p1 + 1 := ⟨_, rfl⟩
    rw [← hj] at hc hnx
    have e1 : IntKind.i64.wrap ((p1 : Int) + 1) = (j : Int) := by rw [IntKind.wrap_i64]; omega
    have C2 : Hid (∀ w', St X w' b1 → Calls Try.prog 101 #[X.p, .int .i64 j] w' fun e w'' => NodeP X w' (cf, p2, b2) e w'') := fun w' h => IS b1 j w' _ hc h hnx
    have c2' := ISK.out ⟨#[61, 61]⟩ _ LC.out.st
    have m1 := (LC.out.row 0 rfl).cell
    clear hc hj hnc HZ HR
    cases h2 : isM X.l p1 sEqEq
    all_goals
      rw [h2] at hr
      injection hr with hr
      subst hr
      first
        | rw [show isM X.l p1 (⟨#[61, 61]⟩ : ByteArray).data.toList = false from h2] at c2'
        | rw [show isM X.l p1 (⟨#[61, 61]⟩ : ByteArray).data.toList = true from h2] at c2'
      have CB := Lib.hid c2'
      clear c2' h2
      go_wp2_with fail
      refine CB.out.mono ?_
      rintro e w3 ⟨rfl, hb4⟩
      have L3 := Lib.hid (LC.out.other hb4)
      clear hb4 m1
      go_wp2_with fail
      refine (C2.out _ L3.out.st).mono ?_
      rintro e w4 ⟨h4, k4, A4, c4, e4, rfl, hK4, hS4, hF4, hl4⟩
      dsimp only at e4 hS4 hl4
      subst e4
      obtain ⟨y1, y2, y3, y4, y5⟩ := h4
      have L4 := Lib.hid ((L3.out.kid hS4 hF4 hK4).alloc w4.heap.size rfl 25 (nc ⟨y1, y2, y3, y4, y5⟩ A4 k4.len c4))
      have L5 := Lib.hid (L4.out.slice (w4.heap.size + 1) (by simp) (cs := #[.int .i64 x1, .int .i64 x2, .int .i64 x3, .string x4, .int .i64 x5, .slice A1 k1.len c1, .int .i64 y1, .int .i64 y2, .int .i64 y3, .string y4, .int .i64 y5, .slice A4 k4.len c4]) (KV.slice2 (h1 := ⟨x1, x2, x3, x4, x5⟩) (h2 := ⟨y1, y2, y3, y4, y5⟩) (L4.out.kidP 1 rfl) (L4.out.kidP 0 rfl)))
      have m2 := (L4.out.row 0 rfl).cell
      have m3 := (L4.out.row 1 rfl).cell
      clear hS4 hF4 hK4
      go_wp2_with fail
    · refine (ended_any ⟨14, x2, 0, e0, 0⟩ none 0 0 p2 (some ⟨w4.heap.size + 1, 0, none⟩) 2 2 _).mono ?_
      rintro e w5 ⟨rfl, hb5⟩
      have L6 := Lib.hid ((L5.out.other hb5).put6 2 rfl rfl (.int .i64 14) (.int .i64 x2) (.int .i64 p2) (.string e0) (.int .i64 0) (.slice (some ⟨w4.heap.size + 1, 0, none⟩) 2 2))
      have r7 := ((L5.out.other hb5).row 2 rfl).cell
      have t7 := ((L5.out.other hb5).row 2 rfl).thaw
      clear hb5 m2 m3
      go_wp2
      refine bodyPost_ret ?_ rfl ⟨⟨14, x2, p2, e0, 0⟩, (Fo.one ⟨x1, x2, x3, x4, x5⟩ k1).app (.one ⟨y1, y2, y3, y4, y5⟩ k4), some ⟨w4.heap.size + 1, 0, none⟩, 2, rfl, rfl, ?_, L6.out.st, L6.out.fr, hl4⟩
      · simp [results, Try.results100, go_sem, e0, r7]
        rfl
      · exact (L6.out.kidP 0 rfl).new_ (fun g h => h.1)
    · refine (ended_any ⟨15, x2, 0, e0, 0⟩ none 0 0 p2 (some ⟨w4.heap.size + 1, 0, none⟩) 2 2 _).mono ?_
      rintro e w5 ⟨rfl, hb5⟩
      have L6 := Lib.hid ((L5.out.other hb5).put6 2 rfl rfl (.int .i64 15) (.int .i64 x2) (.int .i64 p2) (.string e0) (.int .i64 0) (.slice (some ⟨w4.heap.size + 1, 0, none⟩) 2 2))
      have r7 := ((L5.out.other hb5).row 2 rfl).cell
      have t7 := ((L5.out.other hb5).row 2 rfl).thaw
      clear hb5 m2 m3
      go_wp2
      refine bodyPost_ret ?_ rfl ⟨⟨15, x2, p2, e0, 0⟩, (Fo.one ⟨x1, x2, x3, x4, x5⟩ k1).app (.one ⟨y1, y2, y3, y4, y5⟩ k4), some ⟨w4.heap.size + 1, 0, none⟩, 2, rfl, rfl, ?_, L6.out.st, L6.out.fr, hl4⟩
      · simp [results, Try.results100, go_sem, e0, r7]
        rfl
      · exact (L6.out.kidP 0 rfl).new_ (fun g h => h.1)
  · have hr := HR.out
    rw [if_pos (HZ.out.1 rfl)] at hr
    injection hr with hr
    subst hr
    have L2 := Lib.hid (LC.out.put6 1 rfl rfl (.int .i64 x1) (.int .i64 x2) (.int .i64 x3) (.string x4) (.int .i64 x5) (.slice A1 k1.len c1))
    have m1 := (LC.out.row 0 rfl).cell
    have r7 := (LC.out.row 1 rfl).cell
    have t7 := (LC.out.row 1 rfl).thaw
    go_wp2
    refine bodyPost_ret ?_ rfl ⟨⟨x1, x2, x3, x4, x5⟩, k1, A1, c1, rfl, rfl, ?_, L2.out.st, L2.out.fr, hl1⟩
    · simp [results, Try.results100, go_sem, r7]
    · exact (L2.out.kidP 0 rfl).new_ (fun g h => h.1)
theorem sumL_end {l : List Tok} {f : Nat} {a : Fo} {b : Int} {i : Nat} {r : Fo × Nat × Int} (h : exM l f (.sumL a) b i = some r) (hc : ¬ (b < 0 ∧ (isM l i sPlus = true ∨ isM l i sMinus = true))) : r = (a, i, b) := by
  cases f with
  | zero => rw [exM] at h; cases h
  | succ f => rw [exM, if_neg hc] at h; injection h with h; exact h.symm
theorem sumL_go {l : List Tok} {f : Nat} {a : Fo} {b : Int} {i : Nat} {r : Fo × Nat × Int} (h : exM l f (.sumL a) b i = some r) (hc : b < 0 ∧ (isM l i sPlus = true ∨ isM l i sMinus = true)) :
    ∃ f' t, f = f' + 1 ∧ exM l f' .term b (i + 1) = some t ∧ exM l f' (.sumL (.one ⟨if isM l i sMinus = true then 17 else 16, a.from_, t.2.1, e0, 0⟩ (a.app t.1))) t.2.2 t.2.1 = some r := by
  cases f with
  | zero => rw [exM] at h; cases h
  | succ f =>
    rw [exM, if_pos hc] at h
    obtain ⟨t, h1, h2⟩ := Option.bind_eq_some_iff.1 h
    exact ⟨f, t, rfl, h1, h2⟩
set_option maxHeartbeats 8000000 in
set_option maxRecDepth 100000 in
theorem sum_c (X : Cx) (f : Nat) (IT : ∀ f', f' ≤ f → ExC X f' .term 102) : ExC X (f + 1) .sum 101 := by
  intro b i w r hr hS hi
  have L0 := Lib.hid ((LS.start hS).alloc w.heap.size rfl 25 zc)
  have hle := hS.wf.le
  have WF := Lib.hid hS.wf
  have hrb := hS.row.lt
  rw [exM] at hr
  obtain ⟨⟨af, p1, b1⟩, ha, hr⟩ := Option.bind_eq_some_iff.1 hr
  dsimp only at hr
  have C1 : Hid (∀ w', St X w' b → Calls Try.prog 102 #[X.p, .int .i64 i] w' fun e w'' => NodeP X w' (af, p1, b1) e w'') := fun w' h => IT f (Nat.le_refl _) b i w' _ ha h hi
  have HR := Lib.hid hr
  clear hS ha hr
  go_enter Try.func101, Try.ntmps101
  go_wp2_with fail
  refine (C1.out _ L0.out.st).mono ?_
  rintro e w1 ⟨h1, k1, A1, c1, e1, rfl, hK1, hS1, hF1, hl1⟩
  dsimp only at e1 hS1 hl1
  subst e1
  have L1 := Lib.hid ((L0.out.kid hS1 hF1 hK1).alloc w1.heap.size rfl 25 (nc h1 A1 k1.len c1))
  clear hS1 hF1 hK1
  obtain ⟨x1, x2, x3, x4, x5⟩ := h1
  go_wp2_with fail
  go_loopg [7] (f + 1) (fun kx s7 wr => ∃ (fk ik : Nat) (bk : Int) (y1 y2 y3 : Nat) (y4 : ByteArray) (y5 : Nat) (k : Fo) (A : Option Addr) (c : Nat), s7 = .int .i64 ik ∧ fk ≤ kx ∧ fk ≤ f ∧ ik < X.l.length ∧ Hid (exM X.l fk (.sumL (.one ⟨y1, y2, y3, y4, y5⟩ k)) bk ik = some r) ∧ Hid (LS X w wr bk [(w1.heap.size, 25, nc ⟨y1, y2, y3, y4, y5⟩ A k.len c), (w.heap.size, 25, zc)] [(k, A, c)] (.slice none 0 0) .nil))
  case atStart => exact ⟨f, p1, b1, x1, x2, x3, x4, x5, k1, A1, c1, rfl, by omega, by omega, hl1, HR.out, L1.out⟩
  case round =>
    obtain ⟨fk, ik, bk, y1, y2, y3, y4, y5, k, A, c, rfl, hkx, hfk, hik, HG, LK⟩ := hrel
    obtain ⟨z, hz⟩ : ∃ z : Bool, (z = true ↔ (bk < 0 ∧ (isM X.l ik sPlus = true ∨ isM X.l ik sMinus = true))) := by
      by_cases h : bk < 0 ∧ (isM X.l ik sPlus = true ∨ isM X.l ik sMinus = true)
      · exact ⟨true, fun _ => h, fun _ => rfl⟩
      · exact ⟨false, by simp only [Bool.false_eq_true, false_iff]; exact h⟩
    have HZ := Lib.hid hz
    have n1 := LK.out.st.row.cell
    have ISK := Lib.hid (fun (x : ByteArray) w' h => is_any X bk ik x w' h hik)
    clear hz
    go_upto_region 2 with fail
    go_cut [31] from 17 to 51 (fun s wx => s = .bool z ∧ Hid (LS X w wx bk [(w1.heap.size, 25, nc ⟨y1, y2, y3, y4, y5⟩ A k.len c), (w.heap.size, 25, zc)] [(k, A, c)] (.slice none 0 0) .nil))
    case first =>
      by_cases hb : bk < 0
      · have c0' := ISK.out ⟨#[43]⟩ _ LK.out.st
        cases q0 : isM X.l ik sPlus
        · rw [show isM X.l ik (⟨#[43]⟩ : ByteArray).data.toList = false from q0] at c0'
          have C0 := Lib.hid c0'
          clear c0'
          go_wp2_with fail
          refine C0.out.mono ?_
          rintro e wq0 ⟨rfl, hbl0⟩
          have LQ0 := Lib.hid (LK.out.other hbl0)
          clear hbl0
          have c1' := ISK.out ⟨#[45]⟩ _ LQ0.out.st
          cases q1 : isM X.l ik sMinus
          · rw [show isM X.l ik (⟨#[45]⟩ : ByteArray).data.toList = false from q1] at c1'
            have C1 := Lib.hid c1'
            obtain rfl : z = false := by
              cases z
              · rfl
              · have h := (HZ.out.1 rfl).2
                rcases h with h | h
                · rw [q0] at h; cases h
                · rw [q1] at h; cases h
            clear c1' q0 q1
            go_wp2_with fail
            refine C1.out.mono ?_
            rintro e wq1 ⟨rfl, hbl1⟩
            have LQ1 := Lib.hid (LQ0.out.other hbl1)
            clear hbl1
            go_wp2_with fail
            go_meet
            exact ⟨rfl, LQ1.out⟩
          · rw [show isM X.l ik (⟨#[45]⟩ : ByteArray).data.toList = true from q1] at c1'
            have C1 := Lib.hid c1'
            obtain rfl : z = true := HZ.out.2 ⟨by omega, .inr q1⟩
            clear c1' q0 q1
            go_wp2_with fail
            refine C1.out.mono ?_
            rintro e wq1 ⟨rfl, hbl1⟩
            have LQ1 := Lib.hid (LQ0.out.other hbl1)
            clear hbl1
            go_wp2_with fail
            go_meet
            exact ⟨rfl, LQ1.out⟩
        · rw [show isM X.l ik (⟨#[43]⟩ : ByteArray).data.toList = true from q0] at c0'
          have C0 := Lib.hid c0'
          obtain rfl : z = true := HZ.out.2 ⟨by omega, .inl q0⟩
          clear c0' q0
          go_wp2_with fail
          refine C0.out.mono ?_
          rintro e wq0 ⟨rfl, hbl0⟩
          have LQ0 := Lib.hid (LK.out.other hbl0)
          clear hbl0
          go_wp2_with fail
          go_meet
          exact ⟨rfl, LQ0.out⟩
      · obtain rfl : z = false := by
          cases z
          · rfl
          · exact absurd (HZ.out.1 rfl).1 hb
        go_wp2_with fail
        go_meet
        exact ⟨rfl, LK.out⟩
    case rest =>
    obtain ⟨rfl, LC⟩ := hcut
    clear LK n1
    cases z
    · have hrk := sumL_end HG.out (fun hh => by have := HZ.out.2 hh; cases this)
      subst hrk
      have m1 := (LC.out.row 0 rfl).cell
      have L2 := Lib.hid (LC.out.put6 1 rfl rfl (.int .i64 y1) (.int .i64 y2) (.int .i64 y3) (.string y4) (.int .i64 y5) (.slice A k.len c))
      have r7 := (LC.out.row 1 rfl).cell
      have t7 := (LC.out.row 1 rfl).thaw
      clear HG HZ HR
      go_wp2
      refine bodyPost_ret ?_ rfl ⟨⟨y1, y2, y3, y4, y5⟩, k, A, c, rfl, rfl, ?_, L2.out.st, L2.out.fr, hik⟩
      · simp [results, Try.results101, go_sem, r7]
      · exact (L2.out.kidP 0 rfl).new_ (fun g h => h.1)
    · obtain ⟨f', t, hf', hty, hG'⟩ := sumL_go HG.out (HZ.out.1 rfl)
      obtain ⟨tf, a3, b3⟩ := t
      dsimp only at hty hG'
      have hnx : ik + 1 < X.l.length := by
        have h := (HZ.out.1 rfl).2
        rcases h with h | h
        · exact isM_next WF.out h
        · exact isM_next WF.out h
      obtain ⟨j, hj⟩ : ∃ j, j = ik + 1 := ⟨_, rfl⟩
      rw [← hj] at hty hnx
      have e1 : IntKind.i64.wrap ((ik : Int) + 1) = (j : Int) := by rw [IntKind.wrap_i64]; omega
      have C3 : Hid (∀ w', St X w' bk → Calls Try.prog 102 #[X.p, .int .i64 j] w' fun e w'' => NodeP X w' (tf, a3, b3) e w'') := fun w' h => IT f' (by omega) bk j w' _ hty h hnx
      have HF' := Lib.hid hf'
      have HG1 := Lib.hid hG'
      clear hty hG' hf' hj HG HZ HR
      have cm := ISK.out ⟨#[45]⟩ _ LC.out.st
      cases q : isM X.l ik sMinus
      · rw [show isM X.l ik (⟨#[45]⟩ : ByteArray).data.toList = false from q] at cm
        have CM := Lib.hid cm
        have HG1 := Lib.hid (by have := HG1.out; rw [q] at this; exact this)
        clear cm q
        go_wp2_with fail
        refine CM.out.mono ?_
        rintro e wm ⟨rfl, hbm⟩
        have LX := Lib.hid (LC.out.other hbm)
        clear hbm
        go_wp2_with fail
        refine (C3.out _ LX.out.st).mono ?_
        rintro e w5 ⟨h5, k5, A5, c5, e5, rfl, hK5, hS5, hF5, hl5⟩
        dsimp only at e5 hS5 hl5
        subst e5
        obtain ⟨z1, z2, z3, z4, z5⟩ := h5
        have M1 := Lib.hid ((LX.out.kid hS5 hF5 hK5).alloc w5.heap.size rfl 25 (nc ⟨z1, z2, z3, z4, z5⟩ A5 k5.len c5))
        have M2 := Lib.hid (M1.out.slice (w5.heap.size + 1) (by simp) (cs := #[.int .i64 y1, .int .i64 y2, .int .i64 y3, .string y4, .int .i64 y5, .slice A k.len c, .int .i64 z1, .int .i64 z2, .int .i64 z3, .string z4, .int .i64 z5, .slice A5 k5.len c5]) (KV.slice2 (h1 := ⟨y1, y2, y3, y4, y5⟩) (h2 := ⟨z1, z2, z3, z4, z5⟩) (M1.out.kidP 1 rfl) (M1.out.kidP 0 rfl)))
        have m2 := (M1.out.row 0 rfl).cell
        have m3 := (M1.out.row 1 rfl).cell
        clear hS5 hF5 hK5
        go_wp2_with fail
        refine (ended_any ⟨16, y2, 0, e0, 0⟩ none 0 0 a3 (some ⟨w5.heap.size + 1, 0, none⟩) 2 2 _).mono ?_
        rintro e w6 ⟨rfl, hb6⟩
        have M3 := Lib.hid ((M2.out.other hb6).put6 1 rfl rfl (.int .i64 16) (.int .i64 y2) (.int .i64 a3) (.string e0) (.int .i64 0) (.slice (some ⟨w5.heap.size + 1, 0, none⟩) 2 2))
        have M4 := Lib.hid M3.out.drop.K1
        have r7 := ((M2.out.other hb6).row 1 rfl).cell
        have t7 := ((M2.out.other hb6).row 1 rfl).thaw
        have hf'' := HF'.out
        clear hb6 m2 m3
        go_wp2_with fail
        go_roundg f'
        case measure => omega
        case rel => exact ⟨f', a3, b3, 16, y2, a3, e0, 0, (Fo.one ⟨y1, y2, y3, y4, y5⟩ k).app (.one ⟨z1, z2, z3, z4, z5⟩ k5), some ⟨w5.heap.size + 1, 0, none⟩, 2, by go_num, by omega, by omega, hl5, HG1.out, M4.out⟩
      · rw [show isM X.l ik (⟨#[45]⟩ : ByteArray).data.toList = true from q] at cm
        have CM := Lib.hid cm
        have HG1 := Lib.hid (by have := HG1.out; rw [q] at this; exact this)
        clear cm q
        go_wp2_with fail
        refine CM.out.mono ?_
        rintro e wm ⟨rfl, hbm⟩
        have LX := Lib.hid (LC.out.other hbm)
        clear hbm
        go_wp2_with fail
        refine (C3.out _ LX.out.st).mono ?_
        rintro e w5 ⟨h5, k5, A5, c5, e5, rfl, hK5, hS5, hF5, hl5⟩
        dsimp only at e5 hS5 hl5
        subst e5
        obtain ⟨z1, z2, z3, z4, z5⟩ := h5
        have M1 := Lib.hid ((LX.out.kid hS5 hF5 hK5).alloc w5.heap.size rfl 25 (nc ⟨z1, z2, z3, z4, z5⟩ A5 k5.len c5))
        have M2 := Lib.hid (M1.out.slice (w5.heap.size + 1) (by simp) (cs := #[.int .i64 y1, .int .i64 y2, .int .i64 y3, .string y4, .int .i64 y5, .slice A k.len c, .int .i64 z1, .int .i64 z2, .int .i64 z3, .string z4, .int .i64 z5, .slice A5 k5.len c5]) (KV.slice2 (h1 := ⟨y1, y2, y3, y4, y5⟩) (h2 := ⟨z1, z2, z3, z4, z5⟩) (M1.out.kidP 1 rfl) (M1.out.kidP 0 rfl)))
        have m2 := (M1.out.row 0 rfl).cell
        have m3 := (M1.out.row 1 rfl).cell
        clear hS5 hF5 hK5
        go_wp2_with fail
        refine (ended_any ⟨17, y2, 0, e0, 0⟩ none 0 0 a3 (some ⟨w5.heap.size + 1, 0, none⟩) 2 2 _).mono ?_
        rintro e w6 ⟨rfl, hb6⟩
        have M3 := Lib.hid ((M2.out.other hb6).put6 1 rfl rfl (.int .i64 17) (.int .i64 y2) (.int .i64 a3) (.string e0) (.int .i64 0) (.slice (some ⟨w5.heap.size + 1, 0, none⟩) 2 2))
        have M4 := Lib.hid M3.out.drop.K1
        have r7 := ((M2.out.other hb6).row 1 rfl).cell
        have t7 := ((M2.out.other hb6).row 1 rfl).thaw
        have hf'' := HF'.out
        clear hb6 m2 m3
        go_wp2_with fail
        go_roundg f'
        case measure => omega
        case rel => exact ⟨f', a3, b3, 17, y2, a3, e0, 0, (Fo.one ⟨y1, y2, y3, y4, y5⟩ k).app (.one ⟨z1, z2, z3, z4, z5⟩ k5), some ⟨w5.heap.size + 1, 0, none⟩, 2, by go_num, by omega, by omega, hl5, HG1.out, M4.out⟩
theorem termL_end {l : List Tok} {f : Nat} {a : Fo} {b : Int} {i : Nat} {r : Fo × Nat × Int} (h : exM l f (.termL a) b i = some r) (hc : ¬ (b < 0 ∧ isM l i sStar = true)) : r = (a, i, b) := by
  cases f with
  | zero => rw [exM] at h; cases h
  | succ f => rw [exM, if_neg hc] at h; injection h with h; exact h.symm
theorem termL_go {l : List Tok} {f : Nat} {a : Fo} {b : Int} {i : Nat} {r : Fo × Nat × Int} (h : exM l f (.termL a) b i = some r) (hc : b < 0 ∧ isM l i sStar = true) :
    ∃ f' t, f = f' + 1 ∧ exM l f' .post b (i + 1) = some t ∧ exM l f' (.termL (.one ⟨18, a.from_, t.2.1, e0, 0⟩ (a.app t.1))) t.2.2 t.2.1 = some r := by
  cases f with
  | zero => rw [exM] at h; cases h
  | succ f =>
    rw [exM, if_pos hc] at h
    obtain ⟨t, h1, h2⟩ := Option.bind_eq_some_iff.1 h
    exact ⟨f, t, rfl, h1, h2⟩
set_option maxHeartbeats 8000000 in
set_option maxRecDepth 100000 in
theorem term_c (X : Cx) (f : Nat) (IT : ∀ f', f' ≤ f → ExC X f' .post 103) : ExC X (f + 1) .term 102 := by
  intro b i w r hr hS hi
  have L0 := Lib.hid ((LS.start hS).alloc w.heap.size rfl 25 zc)
  have hle := hS.wf.le
  have WF := Lib.hid hS.wf
  have hrb := hS.row.lt
  rw [exM] at hr
  obtain ⟨⟨af, p1, b1⟩, ha, hr⟩ := Option.bind_eq_some_iff.1 hr
  dsimp only at hr
  have C1 : Hid (∀ w', St X w' b → Calls Try.prog 103 #[X.p, .int .i64 i] w' fun e w'' => NodeP X w' (af, p1, b1) e w'') := fun w' h => IT f (Nat.le_refl _) b i w' _ ha h hi
  have HR := Lib.hid hr
  clear hS ha hr
  go_enter Try.func102, Try.ntmps102
  go_wp2_with fail
  refine (C1.out _ L0.out.st).mono ?_
  rintro e w1 ⟨h1, k1, A1, c1, e1, rfl, hK1, hS1, hF1, hl1⟩
  dsimp only at e1 hS1 hl1
  subst e1
  have L1 := Lib.hid ((L0.out.kid hS1 hF1 hK1).alloc w1.heap.size rfl 25 (nc h1 A1 k1.len c1))
  clear hS1 hF1 hK1
  obtain ⟨x1, x2, x3, x4, x5⟩ := h1
  go_wp2_with fail
  go_loopg [7] (f + 1) (fun kx s7 wr => ∃ (fk ik : Nat) (bk : Int) (y1 y2 y3 : Nat) (y4 : ByteArray) (y5 : Nat) (k : Fo) (A : Option Addr) (c : Nat), s7 = .int .i64 ik ∧ fk ≤ kx ∧ fk ≤ f ∧ ik < X.l.length ∧ Hid (exM X.l fk (.termL (.one ⟨y1, y2, y3, y4, y5⟩ k)) bk ik = some r) ∧ Hid (LS X w wr bk [(w1.heap.size, 25, nc ⟨y1, y2, y3, y4, y5⟩ A k.len c), (w.heap.size, 25, zc)] [(k, A, c)] (.slice none 0 0) .nil))
  case atStart => exact ⟨f, p1, b1, x1, x2, x3, x4, x5, k1, A1, c1, rfl, by omega, by omega, hl1, HR.out, L1.out⟩
  case round =>
    obtain ⟨fk, ik, bk, y1, y2, y3, y4, y5, k, A, c, rfl, hkx, hfk, hik, HG, LK⟩ := hrel
    obtain ⟨z, hz⟩ : ∃ z : Bool, (z = true ↔ (bk < 0 ∧ isM X.l ik sStar = true)) := by
      by_cases h : bk < 0 ∧ isM X.l ik sStar = true
      · exact ⟨true, fun _ => h, fun _ => rfl⟩
      · exact ⟨false, by simp only [Bool.false_eq_true, false_iff]; exact h⟩
    have HZ := Lib.hid hz
    have n1 := LK.out.st.row.cell
    have ISK := Lib.hid (fun (x : ByteArray) w' h => is_any X bk ik x w' h hik)
    clear hz
    go_upto_region 2 with fail
    go_cut [25] from 16 to 41 (fun s wx => s = .bool z ∧ Hid (LS X w wx bk [(w1.heap.size, 25, nc ⟨y1, y2, y3, y4, y5⟩ A k.len c), (w.heap.size, 25, zc)] [(k, A, c)] (.slice none 0 0) .nil))
    case first =>
      by_cases hb : bk < 0
      · have c0' := ISK.out ⟨#[42]⟩ _ LK.out.st
        cases q0 : isM X.l ik sStar
        · rw [show isM X.l ik (⟨#[42]⟩ : ByteArray).data.toList = false from q0] at c0'
          have C0 := Lib.hid c0'
          obtain rfl : z = false := by
            cases z
            · rfl
            · have h := (HZ.out.1 rfl).2
              rw [q0] at h; cases h
          clear c0' q0
          go_wp2_with fail
          refine C0.out.mono ?_
          rintro e wq0 ⟨rfl, hbl0⟩
          have LQ0 := Lib.hid (LK.out.other hbl0)
          clear hbl0
          go_wp2_with fail
          go_meet
          exact ⟨rfl, LQ0.out⟩
        · rw [show isM X.l ik (⟨#[42]⟩ : ByteArray).data.toList = true from q0] at c0'
          have C0 := Lib.hid c0'
          obtain rfl : z = true := HZ.out.2 ⟨by omega, q0⟩
          clear c0' q0
          go_wp2_with fail
          refine C0.out.mono ?_
          rintro e wq0 ⟨rfl, hbl0⟩
          have LQ0 := Lib.hid (LK.out.other hbl0)
          clear hbl0
          go_wp2_with fail
          go_meet
          exact ⟨rfl, LQ0.out⟩
      · obtain rfl : z = false := by
          cases z
          · rfl
          · exact absurd (HZ.out.1 rfl).1 hb
        go_wp2_with fail
        go_meet
        exact ⟨rfl, LK.out⟩
    case rest =>
    obtain ⟨rfl, LC⟩ := hcut
    clear LK n1
    cases z
    · have hrk := termL_end HG.out (fun hh => by have := HZ.out.2 hh; cases this)
      subst hrk
      have m1 := (LC.out.row 0 rfl).cell
      have L2 := Lib.hid (LC.out.put6 1 rfl rfl (.int .i64 y1) (.int .i64 y2) (.int .i64 y3) (.string y4) (.int .i64 y5) (.slice A k.len c))
      have r7 := (LC.out.row 1 rfl).cell
      have t7 := (LC.out.row 1 rfl).thaw
      clear HG HZ HR
      go_wp2
      refine bodyPost_ret ?_ rfl ⟨⟨y1, y2, y3, y4, y5⟩, k, A, c, rfl, rfl, ?_, L2.out.st, L2.out.fr, hik⟩
      · simp [results, Try.results102, go_sem, r7]
      · exact (L2.out.kidP 0 rfl).new_ (fun g h => h.1)
    · obtain ⟨f', t, hf', hty, hG'⟩ := termL_go HG.out (HZ.out.1 rfl)
      obtain ⟨tf, a3, b3⟩ := t
      dsimp only at hty hG'
      have hnx : ik + 1 < X.l.length := by
        have h := (HZ.out.1 rfl).2
        skip
        exact isM_next WF.out h
        done
      obtain ⟨j, hj⟩ : ∃ j, j = ik + 1 := ⟨_, rfl⟩
      rw [← hj] at hty hnx
      have e1 : IntKind.i64.wrap ((ik : Int) + 1) = (j : Int) := by rw [IntKind.wrap_i64]; omega
      have C3 : Hid (∀ w', St X w' bk → Calls Try.prog 103 #[X.p, .int .i64 j] w' fun e w'' => NodeP X w' (tf, a3, b3) e w'') := fun w' h => IT f' (by omega) bk j w' _ hty h hnx
      have HF' := Lib.hid hf'
      have HG1 := Lib.hid hG'
      clear hty hG' hf' hj HG HZ HR
      have LX := LC
      go_wp2_with fail
      refine (C3.out _ LX.out.st).mono ?_
      rintro e w5 ⟨h5, k5, A5, c5, e5, rfl, hK5, hS5, hF5, hl5⟩
      dsimp only at e5 hS5 hl5
      subst e5
      obtain ⟨z1, z2, z3, z4, z5⟩ := h5
      have M1 := Lib.hid ((LX.out.kid hS5 hF5 hK5).alloc w5.heap.size rfl 25 (nc ⟨z1, z2, z3, z4, z5⟩ A5 k5.len c5))
      have M2 := Lib.hid (M1.out.slice (w5.heap.size + 1) (by simp) (cs := #[.int .i64 y1, .int .i64 y2, .int .i64 y3, .string y4, .int .i64 y5, .slice A k.len c, .int .i64 z1, .int .i64 z2, .int .i64 z3, .string z4, .int .i64 z5, .slice A5 k5.len c5]) (KV.slice2 (h1 := ⟨y1, y2, y3, y4, y5⟩) (h2 := ⟨z1, z2, z3, z4, z5⟩) (M1.out.kidP 1 rfl) (M1.out.kidP 0 rfl)))
      have m2 := (M1.out.row 0 rfl).cell
      have m3 := (M1.out.row 1 rfl).cell
      clear hS5 hF5 hK5
      go_wp2_with fail
      refine (ended_any ⟨18, y2, 0, e0, 0⟩ none 0 0 a3 (some ⟨w5.heap.size + 1, 0, none⟩) 2 2 _).mono ?_
      rintro e w6 ⟨rfl, hb6⟩
      have M3 := Lib.hid ((M2.out.other hb6).put6 1 rfl rfl (.int .i64 18) (.int .i64 y2) (.int .i64 a3) (.string e0) (.int .i64 0) (.slice (some ⟨w5.heap.size + 1, 0, none⟩) 2 2))
      have M4 := Lib.hid M3.out.drop.K1
      have r7 := ((M2.out.other hb6).row 1 rfl).cell
      have t7 := ((M2.out.other hb6).row 1 rfl).thaw
      have hf'' := HF'.out
      clear hb6 m2 m3
      go_wp2_with fail
      go_roundg f'
      case measure => omega
      case rel => exact ⟨f', a3, b3, 18, y2, a3, e0, 0, (Fo.one ⟨y1, y2, y3, y4, y5⟩ k).app (.one ⟨z1, z2, z3, z4, z5⟩ k5), some ⟨w5.heap.size + 1, 0, none⟩, 2, by go_num, by omega, by omega, hl5, HG1.out, M4.out⟩
end Ps
end Go.Proofs.Ytnefnnoleeeedaa
namespace Go.Proofs.Ytnefnnoleeeedaa
open Go.RowKit
namespace Ps
theorem args_end {l : List Tok} {f : Nat} {first : Bool} {b : Int} {i : Nat} {r : Fo × Nat × Int} (h : exM l f (.args first) b i = some r) (hc : ¬ (b < 0 ∧ ¬ (first = true ∧ isM l i sParS = true))) : r = (.nil, i, b) := by
  cases f with
  | zero => rw [exM] at h; cases h
  | succ f => rw [exM, if_neg hc] at h; injection h with h; exact h.symm
theorem args_go {l : List Tok} {f : Nat} {first : Bool} {b : Int} {i : Nat} {r : Fo × Nat × Int} (h : exM l f (.args first) b i = some r) (hc : b < 0 ∧ ¬ (first = true ∧ isM l i sParS = true)) :
    ∃ f' t, f = f' + 1 ∧ exM l f' .expr b i = some t ∧
      ((0 ≤ t.2.2 ∨ isM l t.2.1 sParS = true) → r = (t.1, t.2.1, t.2.2)) ∧
      (¬ (0 ≤ t.2.2 ∨ isM l t.2.1 sParS = true) → ∃ r', exM l f' (.args false) (wantM l t.2.2 t.2.1 sCom).2 (wantM l t.2.2 t.2.1 sCom).1 = some r' ∧ r = (t.1.app r'.1, r'.2)) := by
  cases f with
  | zero => rw [exM] at h; cases h
  | succ f =>
    rw [exM, if_pos hc] at h
    obtain ⟨t, h1, h2⟩ := Option.bind_eq_some_iff.1 h
    refine ⟨f, t, rfl, h1, fun hh => ?_, fun hh => ?_⟩
    · rw [if_pos hh] at h2; injection h2 with h2; exact h2.symm
    · rw [if_neg hh] at h2
      obtain ⟨r', h3, h4⟩ := Option.map_eq_some_iff.1 h2
      exact ⟨r', h3, h4.symm⟩
theorem postL_end {l : List Tok} {f : Nat} {a : Fo} {b : Int} {i : Nat} {r : Fo × Nat × Int} (h : exM l f (.postL a) b i = some r) (hc : ¬ (b < 0 ∧ (isM l i sDot = true ∨ isM l i sParO = true))) : r = (a, i, b) := by
  cases f with
  | zero => rw [exM] at h; cases h
  | succ f => rw [exM, if_neg hc] at h; injection h with h; exact h.symm
theorem postL_dot {l : List Tok} {f : Nat} {a : Fo} {b : Int} {i : Nat} {r : Fo × Nat × Int} (h : exM l f (.postL a) b i = some r) (hb : b < 0) (hc : isM l i sDot = true) :
    ∃ f', f = f' + 1 ∧ exM l f' (.postL (.one { (wordM l b ⟨19, a.from_, 0, e0, 0⟩ (i + 1)).1 with til := (wordM l b ⟨19, a.from_, 0, e0, 0⟩ (i + 1)).2.1 } a)) (wordM l b ⟨19, a.from_, 0, e0, 0⟩ (i + 1)).2.2 (wordM l b ⟨19, a.from_, 0, e0, 0⟩ (i + 1)).2.1 = some r := by
  cases f with
  | zero => rw [exM] at h; cases h
  | succ f => rw [exM, if_pos ⟨hb, .inl hc⟩, if_pos hc] at h; exact ⟨f, rfl, h⟩
theorem postL_call {l : List Tok} {f : Nat} {a : Fo} {b : Int} {i : Nat} {r : Fo × Nat × Int} (h : exM l f (.postL a) b i = some r) (hb : b < 0) (hc : isM l i sDot = false) (ho : isM l i sParO = true) :
    ∃ f' k, f = f' + 1 ∧ exM l f' (.args true) b (i + 1) = some k ∧ exM l f' (.postL (.one ⟨20, a.from_, (wantM l k.2.2 k.2.1 sParS).1, e0, 0⟩ (a.app k.1))) (wantM l k.2.2 k.2.1 sParS).2 (wantM l k.2.2 k.2.1 sParS).1 = some r := by
  cases f with
  | zero => rw [exM] at h; cases h
  | succ f =>
    rw [exM, if_pos ⟨hb, .inr ho⟩, if_neg (by rw [hc]; simp)] at h
    obtain ⟨k, h1, h2⟩ := Option.bind_eq_some_iff.1 h
    exact ⟨f, k, rfl, h1, h2⟩
set_option maxHeartbeats 8000000 in
set_option maxRecDepth 100000 in
theorem post_c (X : Cx) (f : Nat) (hf : f ≤ 1000000) (IA : ExC X f .atom 104) (IE : ∀ f', f' ≤ f → ExC X f' .expr 100) : ExC X (f + 1) .post 103 := by
  intro b i w r hr hS hi
  have L0 := Lib.hid ((LS.start hS).alloc w.heap.size rfl 25 zc)
  have hle := hS.wf.le
  have WF := Lib.hid hS.wf
  have hrb := hS.row.lt
  rw [exM] at hr
  obtain ⟨⟨af, p1, b1⟩, ha, hr⟩ := Option.bind_eq_some_iff.1 hr
  dsimp only at hr
  have C1 : Hid (∀ w', St X w' b → Calls Try.prog 104 #[X.p, .int .i64 i] w' fun e w'' => NodeP X w' (af, p1, b1) e w'') := fun w' h => IA b i w' _ ha h hi
  have HR := Lib.hid hr
  clear hS ha hr
  go_enter Try.func103, Try.ntmps103
  go_wp2_with fail
  refine (C1.out _ L0.out.st).mono ?_
  rintro e w1 ⟨h1, k1, A1, c1, e1, rfl, hK1, hS1, hF1, hl1⟩
  dsimp only at e1 hS1 hl1
  subst e1
  have L1 := Lib.hid ((L0.out.kid hS1 hF1 hK1).alloc w1.heap.size rfl 25 (nc h1 A1 k1.len c1))
  clear hS1 hF1 hK1
  obtain ⟨x1, x2, x3, x4, x5⟩ := h1
  go_wp2_with fail
  go_loopg [7] (f + 1) (fun kx s7 wr => ∃ (fk ik : Nat) (bk : Int) (y1 y2 y3 : Nat) (y4 : ByteArray) (y5 : Nat) (k : Fo) (A : Option Addr) (c : Nat), s7 = .int .i64 ik ∧ fk ≤ kx ∧ fk ≤ f ∧ ik < X.l.length ∧ Hid (exM X.l fk (.postL (.one ⟨y1, y2, y3, y4, y5⟩ k)) bk ik = some r) ∧ Hid (LS X w wr bk [(w1.heap.size, 25, nc ⟨y1, y2, y3, y4, y5⟩ A k.len c), (w.heap.size, 25, zc)] [(k, A, c)] (.slice none 0 0) .nil))
  case atStart => exact ⟨f, p1, b1, x1, x2, x3, x4, x5, k1, A1, c1, rfl, by omega, by omega, hl1, HR.out, L1.out⟩
  case round =>
    obtain ⟨fk, ik, bk, y1, y2, y3, y4, y5, k, A, c, rfl, hkx, hfk, hik, HG, LK⟩ := hrel
    obtain ⟨z, hz⟩ : ∃ z : Bool, (z = true ↔ (bk < 0 ∧ (isM X.l ik sDot = true ∨ isM X.l ik sParO = true))) := by
      by_cases h : bk < 0 ∧ (isM X.l ik sDot = true ∨ isM X.l ik sParO = true)
      · exact ⟨true, fun _ => h, fun _ => rfl⟩
      · exact ⟨false, by simp only [Bool.false_eq_true, false_iff]; exact h⟩
    have HZ := Lib.hid hz
    have n1 := LK.out.st.row.cell
    have ISK := Lib.hid (fun (x : ByteArray) w' h => is_any X bk ik x w' h hik)
    clear hz
    go_upto_region 2 with fail
    go_cut [33] from 19 to 105 (fun s wx => s = .bool z ∧ Hid (LS X w wx bk [(w1.heap.size, 25, nc ⟨y1, y2, y3, y4, y5⟩ A k.len c), (w.heap.size, 25, zc)] [(k, A, c)] (.slice none 0 0) .nil))
    case first =>
      by_cases hb : bk < 0
      · have c0' := ISK.out ⟨#[46]⟩ _ LK.out.st
        cases q0 : isM X.l ik sDot
        · rw [show isM X.l ik (⟨#[46]⟩ : ByteArray).data.toList = false from q0] at c0'
          have C0 := Lib.hid c0'
          clear c0'
          go_wp2_with fail
          refine C0.out.mono ?_
          rintro e wq0 ⟨rfl, hbl0⟩
          have LQ0 := Lib.hid (LK.out.other hbl0)
          clear hbl0
          have c1' := ISK.out ⟨#[40]⟩ _ LQ0.out.st
          cases q1 : isM X.l ik sParO
          · rw [show isM X.l ik (⟨#[40]⟩ : ByteArray).data.toList = false from q1] at c1'
            have CC1 := Lib.hid c1'
            obtain rfl : z = false := by
              cases z
              · rfl
              · have h := (HZ.out.1 rfl).2
                rcases h with h | h
                · rw [q0] at h; cases h
                · rw [q1] at h; cases h
            clear c1' q0 q1
            go_wp2_with fail
            refine CC1.out.mono ?_
            rintro e wq1 ⟨rfl, hbl1⟩
            have LQ1 := Lib.hid (LQ0.out.other hbl1)
            clear hbl1
            go_wp2_with fail
            go_meet
            exact ⟨rfl, LQ1.out⟩
          · rw [show isM X.l ik (⟨#[40]⟩ : ByteArray).data.toList = true from q1] at c1'
            have CC1 := Lib.hid c1'
            obtain rfl : z = true := HZ.out.2 ⟨by omega, .inr q1⟩
            clear c1' q0 q1
            go_wp2_with fail
            refine CC1.out.mono ?_
            rintro e wq1 ⟨rfl, hbl1⟩
            have LQ1 := Lib.hid (LQ0.out.other hbl1)
            clear hbl1
            go_wp2_with fail
            go_meet
            exact ⟨rfl, LQ1.out⟩
        · rw [show isM X.l ik (⟨#[46]⟩ : ByteArray).data.toList = true from q0] at c0'
          have C0 := Lib.hid c0'
          obtain rfl : z = true := HZ.out.2 ⟨by omega, .inl q0⟩
          clear c0' q0
          go_wp2_with fail
          refine C0.out.mono ?_
          rintro e wq0 ⟨rfl, hbl0⟩
          have LQ0 := Lib.hid (LK.out.other hbl0)
          clear hbl0
          go_wp2_with fail
          go_meet
          exact ⟨rfl, LQ0.out⟩
      · obtain rfl : z = false := by
          cases z
          · rfl
          · exact absurd (HZ.out.1 rfl).1 hb
        go_wp2_with fail
        go_meet
        exact ⟨rfl, LK.out⟩
    case rest =>
    obtain ⟨rfl, LC⟩ := hcut
    clear LK n1
    cases z
    · have hrk := postL_end HG.out (fun hh => by have := HZ.out.2 hh; cases this)
      subst hrk
      have m1 := (LC.out.row 0 rfl).cell
      have L2 := Lib.hid (LC.out.put6 1 rfl rfl (.int .i64 y1) (.int .i64 y2) (.int .i64 y3) (.string y4) (.int .i64 y5) (.slice A k.len c))
      have r7 := (LC.out.row 1 rfl).cell
      have t7 := (LC.out.row 1 rfl).thaw
      clear HG HZ HR
      go_wp2
      refine bodyPost_ret ?_ rfl ⟨⟨y1, y2, y3, y4, y5⟩, k, A, c, rfl, rfl, ?_, L2.out.st, L2.out.fr, hik⟩
      · simp [results, Try.results103, go_sem, r7]
      · exact (L2.out.kidP 0 rfl).new_ (fun g h => h.1)
    · obtain ⟨hbk, hor⟩ := HZ.out.1 rfl
      have hnx : ik + 1 < X.l.length := by
        rcases hor with h | h
        · exact isM_next WF.out h
        · exact isM_next WF.out h
      obtain ⟨j, hj⟩ : ∃ j, j = ik + 1 := ⟨_, rfl⟩
      have e1 : IntKind.i64.wrap ((ik : Int) + 1) = (j : Int) := by rw [IntKind.wrap_i64]; omega
      have cm := ISK.out ⟨#[46]⟩ _ LC.out.st
      cases q : isM X.l ik sDot
      · rw [show isM X.l ik (⟨#[46]⟩ : ByteArray).data.toList = false from q] at cm
        have CM := Lib.hid cm
        have hpo : isM X.l ik sParO = true := by
          rcases hor with h | h
          · rw [q] at h; cases h
          · exact h
        obtain ⟨f', kk, hf', hty, hG'⟩ := postL_call HG.out hbk q hpo
        obtain ⟨xa, xi, xb⟩ := kk
        dsimp only at hty hG'
        obtain ⟨⟨yi, yb⟩, hy⟩ : ∃ y, y = wantM X.l xb xi sParS := ⟨_, rfl⟩
        rw [← hy] at hG'
        rw [← hj] at hty hnx
        dsimp only at hG'
        obtain ⟨xf, hxf⟩ : ∃ xf, xf = (Fo.one ⟨y1, y2, y3, y4, y5⟩ k).app xa := ⟨_, rfl⟩
        rw [← hxf] at hG'
        have HXF := Lib.hid hxf
        have HX := Lib.hid hty
        have HF0 := Lib.hid hf'
        have HG1 := Lib.hid hG'
        have WT : Hid (∀ w', St X w' xb → xi < X.l.length → Calls Try.prog 83 #[X.p, .int .i64 xi, .string ⟨#[41]⟩] w' fun e w'' => AtP X w' (yi, yb) e w'') := fun w' h hl => by rw [hy]; exact want_any X xb xi ⟨#[41]⟩ w' h hl
        have m1 := (LC.out.row 0 rfl).cell
        have hf0 : f' + 1 ≤ f := by omega
        have hg0 := hkx
        rw [hf'] at hg0
        clear cm q hpo hty hG' hy hxf hf' hj hor HG HZ HR hbk
        go_wp2_with fail
        refine CM.out.mono ?_
        rintro e wm ⟨rfl, hbm⟩
        have LX0 := Lib.hid (LC.out.other hbm)
        have m2 := (LX0.out.row 0 rfl).cell
        have LX := Lib.hid (LX0.out.fresh.lit (k := .one ⟨y1, y2, y3, y4, y5⟩ k) (cs := nc ⟨y1, y2, y3, y4, y5⟩ A k.len c) (FC.one (LX0.out.kidP 0 rfl)) wm.heap.size rfl (show 1 ≤ maxLen by unfold maxLen; omega)).noK
        clear hbm m1
        go_wp2_with fail
        obtain ⟨f0, hf00⟩ : ∃ f0, f0 = f' := ⟨_, rfl⟩
        subst hf00
        go_loopg [7, 10] (f0 + 1) (fun kx s6 s9 wr => ∃ (fk ik : Nat) (bk : Int) (Kk : Fo) (rk : Fo × Nat × Int) (u : Value), u = s9 ∧ s6 = .int .i64 ik ∧ fk ≤ kx ∧ Kk.len + fk ≤ f + 1 ∧ 1 ≤ Kk.len ∧ ik < X.l.length ∧ Hid (exM X.l fk (.args (decide (Kk.len = 1))) bk ik = some rk) ∧ Hid (xf = Kk.app rk.1 ∧ xi = rk.2.1 ∧ xb = rk.2.2) ∧ Hid (LS X w wr bk [(w1.heap.size, 25, nc ⟨y1, y2, y3, y4, y5⟩ A k.len c), (w.heap.size, 25, zc)] [] s9 Kk))
        case atStart => exact ⟨f0, j, bk, .one ⟨y1, y2, y3, y4, y5⟩ k, (xa, xi, xb), _, rfl, by go_num, by omega, by show 1 + f0 ≤ f + 1; omega, Nat.le_refl _, hnx, HX.out, ⟨HXF.out, rfl, rfl⟩, LX.out⟩
        case round =>
          obtain ⟨fk, ik, bk, Kk, rk, u, rfl, rfl, hkx, hfk, hK1, hik, HG, HE, LK⟩ := hrel
          obtain ⟨z, hz⟩ : ∃ z : Bool, (z = true ↔ (bk < 0 ∧ ¬ (decide (Kk.len = 1) = true ∧ isM X.l ik sParS = true))) := by
            by_cases h : bk < 0 ∧ ¬ (decide (Kk.len = 1) = true ∧ isM X.l ik sParS = true)
            · exact ⟨true, by simp only [h, not_false_eq_true, and_self]⟩
            · exact ⟨false, by simp only [Bool.false_eq_true, false_iff]; exact h⟩
          have HZ := Lib.hid hz
          have rk0 := LK.out.st.row.cell
          obtain ⟨AK, cK, eK, hcK, _⟩ := LK.out.list
          obtain rfl := eK
          have ISK := Lib.hid (fun (x : ByteArray) w' h => is_any X bk ik x w' h hik)
          clear hz
          go_upto_region 9 with fail
          go_cut [72] from 57 to 96 (fun s64 wx => s64 = .bool z ∧ Hid (LS X w wx bk [(w1.heap.size, 25, nc ⟨y1, y2, y3, y4, y5⟩ A k.len c), (w.heap.size, 25, zc)] [] (.slice AK Kk.len cK) Kk))
          case first =>
            by_cases h1 : bk < 0
            · by_cases h2 : Kk.len = 1
              · have d2 : ((Kk.len : Int) == 1) = true := by rw [beq_iff_eq]; omega
                have H2 := Lib.hid h2
                clear h2
                have C := ISK.out ⟨#[41]⟩ wr LK.out.st
                cases hq : isM X.l ik sParS
                · rw [show isM X.l ik (⟨#[41]⟩ : ByteArray).data.toList = false from hq] at C
                  have CC := Lib.hid C
                  obtain rfl : z = true := HZ.out.2 ⟨h1, by rw [hq]; simp⟩
                  clear C hq
                  go_wp2_with fail
                  refine CC.out.mono ?_
                  rintro e wq ⟨rfl, hbl⟩
                  have LQ := Lib.hid (LK.out.other hbl)
                  clear hbl
                  go_wp2_with fail
                  go_meet
                  exact ⟨rfl, LQ.out⟩
                · rw [show isM X.l ik (⟨#[41]⟩ : ByteArray).data.toList = true from hq] at C
                  have CC := Lib.hid C
                  obtain rfl : z = false := by
                    cases z
                    · rfl
                    · exact absurd ⟨decide_eq_true H2.out, hq⟩ (HZ.out.1 rfl).2
                  clear C hq
                  go_wp2_with fail
                  refine CC.out.mono ?_
                  rintro e wq ⟨rfl, hbl⟩
                  have LQ := Lib.hid (LK.out.other hbl)
                  clear hbl
                  go_wp2_with fail
                  go_meet
                  exact ⟨rfl, LQ.out⟩
              · have d2 : ((Kk.len : Int) == 1) = false := by rw [beq_eq_false_iff_ne]; omega
                obtain rfl : z = true := HZ.out.2 ⟨h1, fun hh => h2 (of_decide_eq_true hh.1)⟩
                clear h2
                go_wp2_with fail
                go_meet
                exact ⟨rfl, LK.out⟩
            · obtain rfl : z = false := by
                cases z
                · rfl
                · exact absurd (HZ.out.1 rfl).1 h1
              go_wp2_with fail
              go_meet
              exact ⟨rfl, LK.out⟩
          case rest =>
          obtain ⟨rfl, LC⟩ := hcut
          clear LK rk0 ISK
          cases z
          · have hrk := args_end HG.out (fun hh => by have := HZ.out.2 hh; cases this)
            obtain ⟨h1, h2, h3⟩ := HE.out
            rw [hrk, Fo.app_nil] at h1
            rw [hrk] at h2 h3
            dsimp only at h1 h2 h3
            subst h1 h2 h3
            have hxl := hik
            clear HG HE HZ hrk
            go_wp2_with fail
            refine (WT.out _ LC.out.st hxl).mono ?_
            rintro e wa ⟨rfl, hSa, hFa, hla⟩
            have La := Lib.hid (LC.out.step hSa hFa)
            have ra := (La.out.row 0 rfl).cell
            clear hSa hFa
            go_wp2_with fail
            refine (ended_any ⟨20, y2, 0, e0, 0⟩ none 0 0 yi AK xf.len cK _).mono ?_
            rintro e wb ⟨rfl, hbb⟩
            have Lb := Lib.hid ((La.out.other hbb).put6 0 rfl rfl (.int .i64 20) (.int .i64 y2) (.int .i64 yi) (.string e0) (.int .i64 0) (.slice AK xf.len cK))
            have r7 := ((La.out.other hbb).row 0 rfl).cell
            have t7 := ((La.out.other hbb).row 0 rfl).thaw
            have Lc := Lib.hid Lb.out.toKid.K1
            clear hbb ra
            go_wp2_with fail
            go_roundg f0
            case measure => omega
            case rel => exact ⟨f0, yi, yb, 20, y2, yi, e0, 0, xf, AK, cK, by go_num, by omega, by omega, hla, HG1.out, Lc.out⟩
          · obtain ⟨hbk, hfirst⟩ := HZ.out.1 rfl
            obtain ⟨f', t, hf', hty, hstop, hmore⟩ := args_go HG.out ⟨hbk, hfirst⟩
            obtain ⟨tf', a3, b3⟩ := t
            dsimp only at hty hstop hmore
            obtain ⟨⟨a4, b4⟩, h4⟩ : ∃ r, r = wantM X.l b3 a3 sCom := ⟨_, rfl⟩
            rw [← h4] at hmore
            dsimp only at hmore
            have C3 : Hid (∀ w', St X w' bk → Calls Try.prog 100 #[X.p, .int .i64 ik] w' fun e w'' => NodeP X w' (tf', a3, b3) e w'') := fun w' h => IE f' (by omega) bk ik w' _ hty h hik
            have C4 : Hid (a3 < X.l.length → ∀ w', St X w' b3 → Calls Try.prog 83 #[X.p, .int .i64 a3, .string ⟨#[44]⟩] w' fun e w'' => AtP X w' (a4, b4) e w'') := fun hl w' h => by rw [h4]; exact want_any X b3 a3 ⟨#[44]⟩ w' h hl
            have C5 : Hid (a3 < X.l.length → ∀ w', St X w' b3 → Calls Try.prog 53 #[X.p, .int .i64 a3, .string ⟨#[41]⟩] w' fun e w'' => e = .returned (.bool (isM X.l a3 sParS)) ∧ Below w'.heap.size w' w'') := fun hl w' h => is_any X b3 a3 ⟨#[41]⟩ w' h hl
            have HSTOP := Lib.hid hstop
            have HMORE := Lib.hid hmore
            have HF' := Lib.hid hf'
            clear h4 hty hstop hmore HG HZ hfirst hf' hbk
            go_wp2_with fail
            refine (C3.out _ LC.out.st).mono ?_
            rintro e w5 ⟨h5, k5, A5, c5, e5, rfl, hK5, hS5, hF5, hl5⟩
            dsimp only at e5 hS5 hl5
            subst e5
            obtain ⟨hk1, hk2, hk3, hk4, hk5⟩ := h5
            have M6 := Lib.hid (((LC.out.kid hS5 hF5 hK5).alloc w5.heap.size rfl 25 (nc ⟨hk1, hk2, hk3, hk4, hk5⟩ A5 k5.len c5)).other (bel1 _ (.cells (nc ⟨hk1, hk2, hk3, hk4, hk5⟩ A5 k5.len c5) 25)))
            have m1 := (M6.out.row 0 rfl).cell
            clear hS5 hF5 hK5
            obtain ⟨cs, o1, o2⟩ := M6.out.own
            have O1 := Lib.hid o1
            have O2 := Lib.hid o2
            obtain ⟨i0, hi0, hz0, hz1, hz2⟩ := info_parts info25
            have b5 := Lib.hid M6.out.size
            have b3' : Kk.len + 1 ≤ maxLen := by unfold maxLen; omega
            have b4' : (Kk.len + 1) * 72 ≤ 140737488355328 := by omega
            have CN := Lib.hid (cells_nd (w5.alloc (.cells (nc ⟨hk1, hk2, hk3, hk4, hk5⟩ A5 k5.len c5) 25)) (.int .i64 hk1) (.int .i64 hk2) (.int .i64 hk3) (.string hk4) (.int .i64 hk5) (.slice A5 k5.len c5))
            clear o1 o2
            go_wp2_with (at_builtin; refine wpList_append_at rfl (.tmp 80) (.tmp 82) 23 rfl w.heap.size 25 i0 (.agg #[.int .i64 0, .int .i64 0, .int .i64 0, .string ⟨#[]⟩, .int .i64 0, .slice none 0 0]) 6 72 Try.underlying23 hi0 hz0 hz1 hz2 rfl (by decide) _ Kk.len cs rfl O1.out ⟨w5.heap.size + 1, 0, none⟩ 1 1 [.int .i64 hk1, .int .i64 hk2, .int .i64 hk3, .string hk4, .int .i64 hk5, .slice A5 k5.len c5] rfl rfl (by simpa using CN.out) (one_nd ⟨hk1, hk2, hk3, hk4, hk5⟩ _ _ _) b3' b4' b5.out ?_)
            intro v' w7 hown' hgrow hat
            have M7 := Lib.hid (M6.out.push ⟨O1.out, O2.out⟩ (k := .one ⟨hk1, hk2, hk3, hk4, hk5⟩ k5) (FC.one (M6.out.kidP 0 rfl)) hown' hgrow (fun j hj => by
              rcases hat j hj with h | h
              · exact .inl h
              · exact .inr (by simpa using h)))
            clear hown' hgrow hat b3' b4' b5 CN O1 O2
            clear m1
            have M7 := Lib.hid M7.out.drop.noK
            have hKl : (Kk.app (.one ⟨hk1, hk2, hk3, hk4, hk5⟩ k5)).len = Kk.len + 1 := by rw [Fo.len_app]; rfl
            have HKL := Lib.hid hKl
            have n7 := M7.out.st.row.cell
            clear hKl
            by_cases hb3 : 0 ≤ b3
            · have hrk := HSTOP.out (.inl hb3)
              obtain ⟨h1, h2, h3⟩ := HE.out
              rw [hrk] at h1 h2 h3
              dsimp only at h1 h2 h3
              have hKL2 : xf.len ≤ 1000010 := by
                have := HKL.out
                rw [← h1] at this
                omega
              subst h2 h3
              obtain ⟨A7, c7, e7, hc7, hk7⟩ := M7.out.list
              rw [← h1] at e7 M7
              subst e7
              have hxl := hl5
              have hb3' : xb ≥ 0 := hb3
              clear HE HSTOP HMORE hrk h1 HKL
              go_wp2_with fail
              refine (WT.out _ M7.out.st hxl).mono ?_
              rintro e wa ⟨rfl, hSa, hFa, hla⟩
              have La := Lib.hid (M7.out.step hSa hFa)
              have ra := (La.out.row 0 rfl).cell
              clear hSa hFa
              go_wp2_with fail
              refine (ended_any ⟨20, y2, 0, e0, 0⟩ none 0 0 yi A7 xf.len c7 _).mono ?_
              rintro e wb ⟨rfl, hbb⟩
              have Lb := Lib.hid ((La.out.other hbb).put6 0 rfl rfl (.int .i64 20) (.int .i64 y2) (.int .i64 yi) (.string e0) (.int .i64 0) (.slice A7 xf.len c7))
              have r7 := ((La.out.other hbb).row 0 rfl).cell
              have t7 := ((La.out.other hbb).row 0 rfl).thaw
              have Lc := Lib.hid Lb.out.toKid.K1
              clear hbb ra
              go_wp2_with fail
              go_roundg f0
              case measure => omega
              case rel => exact ⟨f0, yi, yb, 20, y2, yi, e0, 0, xf, A7, c7, by go_num, by omega, by omega, hla, HG1.out, Lc.out⟩
            · have hb3' : ¬ b3 ≥ 0 := by omega
              have c5' := C5.out hl5 w7 M7.out.st
              cases hq : isM X.l a3 sParS
              · obtain ⟨r', hG', hrk⟩ := HMORE.out (fun hh => by rcases hh with hh | hh; exact hb3 hh; rw [hq] at hh; cases hh)
                rw [hq] at c5'
                have CC := Lib.hid c5'
                obtain ⟨h1, h2, h3⟩ := HE.out
                rw [hrk] at h1 h2 h3
                dsimp only at h1 h2 h3
                have HE2 := Lib.hid (show xf = (Kk.app (.one ⟨hk1, hk2, hk3, hk4, hk5⟩ k5)).app r'.1 ∧ xi = r'.2.1 ∧ xb = r'.2.2 from ⟨by rw [h1, Fo.app_assoc], h2, h3⟩)
                have HG2 : Hid (exM X.l f' (.args (decide ((Kk.app (.one ⟨hk1, hk2, hk3, hk4, hk5⟩ k5)).len = 1))) b4 a4 = some r') := by
                  unfold Hid; rw [HKL.out, show decide (Kk.len + 1 = 1) = false by simp; omega]; exact hG'
                clear HE HSTOP HMORE hrk h1 h2 h3 hG' hq c5' hb3
                go_wp2_with fail
                refine CC.out.mono ?_
                rintro e w8 ⟨rfl, hb8⟩
                have M8 := Lib.hid (M7.out.other hb8)
                clear hb8 n7
                go_wp2_with fail
                refine (C4.out hl5 _ M8.out.st).mono ?_
                rintro e w9 ⟨rfl, hS9, hF9, hl9⟩
                have M9 := Lib.hid (M8.out.step hS9 hF9)
                have hf'' := HF'.out
                have hkl := HKL.out
                clear hS9 hF9 HKL
                go_wp2_with fail
                go_roundg f'
                case measure => omega
                case rel => exact ⟨f', a4, b4, _, r', _, rfl, by go_num, by omega, by omega, by omega, hl9, HG2.out, HE2.out, M9.out⟩
              · have hrk := HSTOP.out (.inr hq)
                rw [hq] at c5'
                have CC := Lib.hid c5'
                obtain ⟨h1, h2, h3⟩ := HE.out
                rw [hrk] at h1 h2 h3
                dsimp only at h1 h2 h3
                have hKL2 : xf.len ≤ 1000010 := by
                  have := HKL.out
                  rw [← h1] at this
                  omega
                subst h2 h3
                obtain ⟨A7, c7, e7, hc7, hk7⟩ := M7.out.list
                rw [← h1] at e7 M7
                subst e7
                have hxl := hl5
                clear HE HSTOP HMORE hrk h1 hq c5' hb3 HKL
                go_wp2_with fail
                refine CC.out.mono ?_
                rintro e w8 ⟨rfl, hb8⟩
                have M8 := Lib.hid (M7.out.other hb8)
                clear hb8 n7
                go_wp2_with fail
                refine (WT.out _ M8.out.st hxl).mono ?_
                rintro e wa ⟨rfl, hSa, hFa, hla⟩
                have La := Lib.hid (M8.out.step hSa hFa)
                have ra := (La.out.row 0 rfl).cell
                clear hSa hFa
                go_wp2_with fail
                refine (ended_any ⟨20, y2, 0, e0, 0⟩ none 0 0 yi A7 xf.len c7 _).mono ?_
                rintro e wb ⟨rfl, hbb⟩
                have Lb := Lib.hid ((La.out.other hbb).put6 0 rfl rfl (.int .i64 20) (.int .i64 y2) (.int .i64 yi) (.string e0) (.int .i64 0) (.slice A7 xf.len c7))
                have r7 := ((La.out.other hbb).row 0 rfl).cell
                have t7 := ((La.out.other hbb).row 0 rfl).thaw
                have Lc := Lib.hid Lb.out.toKid.K1
                clear hbb ra
                go_wp2_with fail
                go_roundg f0
                case measure => omega
                case rel => exact ⟨f0, yi, yb, 20, y2, yi, e0, 0, xf, A7, c7, by go_num, by omega, by omega, hla, HG1.out, Lc.out⟩
      · rw [show isM X.l ik (⟨#[46]⟩ : ByteArray).data.toList = true from q] at cm
        have CM := Lib.hid cm
        obtain ⟨f', hf', hG'⟩ := postL_dot HG.out hbk q
        rw [← hj] at hG' hnx
        obtain ⟨⟨⟨z1, z2, z3, z4, z5⟩, a3, b3⟩, h3⟩ : ∃ r, r = wordM X.l bk ⟨19, y2, 0, e0, 0⟩ j := ⟨_, rfl⟩
        rw [show (Fo.one ⟨y1, y2, y3, y4, y5⟩ k).from_ = y2 from rfl, ← h3] at hG'
        dsimp only at hG'
        have C3 : Hid (∀ w', St X w' bk → Calls Try.prog 82 #[X.p, nv ⟨19, y2, 0, e0, 0⟩ none 0 0, .int .i64 j] w' fun e w'' => WordP X w' (⟨z1, z2, z3, z4, z5⟩, a3, b3) none 0 0 e w'') := fun w' h => by rw [h3]; exact word_any X bk _ none 0 0 j w' h hnx
        have HF' := Lib.hid hf'
        have HG1 := Lib.hid hG'
        have m1 := (LC.out.row 0 rfl).cell
        clear cm q hG' h3 hf' hj hor HG HZ HR hbk
        go_wp2_with fail
        refine CM.out.mono ?_
        rintro e wm ⟨rfl, hbm⟩
        have LX := Lib.hid (LC.out.other hbm)
        have m2 := (LX.out.row 0 rfl).cell
        clear hbm m1
        go_wp2_with fail
        refine (C3.out _ LX.out.st).mono ?_
        rintro e w5 ⟨rfl, hS5, hF5, hl5⟩
        have M1 := Lib.hid ((LX.out.step hS5 hF5).alloc w5.heap.size rfl 25 (nc ⟨z1, z2, z3, z4, z5⟩ none 0 0))
        have M2 := Lib.hid (M1.out.slice (w5.heap.size + 1) (by simp) (k := .one ⟨y1, y2, y3, y4, y5⟩ k) (cs := nc ⟨y1, y2, y3, y4, y5⟩ A k.len c) (FC.one (M1.out.kidP 0 rfl)))
        have m3 := (M1.out.row 0 rfl).cell
        have m4 := (M1.out.row 1 rfl).cell
        clear hS5 hF5 m2
        go_wp2_with fail
        refine (ended_any ⟨z1, z2, z3, z4, z5⟩ none 0 0 a3 (some ⟨w5.heap.size + 1, 0, none⟩) 1 1 _).mono ?_
        rintro e w6 ⟨rfl, hb6⟩
        have M3 := Lib.hid ((M2.out.other hb6).put6 1 rfl rfl (.int .i64 z1) (.int .i64 z2) (.int .i64 a3) (.string z4) (.int .i64 z5) (.slice (some ⟨w5.heap.size + 1, 0, none⟩) 1 1))
        have M4 := Lib.hid M3.out.drop.K1
        have r7 := ((M2.out.other hb6).row 1 rfl).cell
        have t7 := ((M2.out.other hb6).row 1 rfl).thaw
        have hf'' := HF'.out
        clear hb6 m3 m4
        go_wp2_with fail
        go_roundg f'
        case measure => omega
        case rel => exact ⟨f', a3, b3, z1, z2, a3, z4, z5, .one ⟨y1, y2, y3, y4, y5⟩ k, some ⟨w5.heap.size + 1, 0, none⟩, 1, by go_num, by omega, by omega, hl5, HG1.out, M4.out⟩
end Ps
end Go.Proofs.Ytnefnnoleeeedaa
namespace Go.Proofs.Ytnefnnoleeeedaa
open Go.RowKit
namespace Ps
theorem entries_end {l : List Tok} {f : Nat} {first : Bool} {b : Int} {i : Nat} {r : Fo × Nat × Int} (h : exM l f (.entries first) b i = some r) (hc : ¬ (b < 0 ∧ ¬ (first = true ∧ isM l i sShut = true))) : r = (.nil, i, b) := by
  cases f with
  | zero => rw [exM] at h; cases h
  | succ f => rw [exM, if_neg hc] at h; injection h with h; exact h.symm
theorem entries_go {l : List Tok} {f : Nat} {first : Bool} {b : Int} {i : Nat} {r : Fo × Nat × Int} (h : exM l f (.entries first) b i = some r) (hc : b < 0 ∧ ¬ (first = true ∧ isM l i sShut = true)) :
    ∃ f' t, f = f' + 1 ∧ exM l f' .expr (wantM l (wordM l b ⟨27, i, 0, e0, 0⟩ i).2.2 (wordM l b ⟨27, i, 0, e0, 0⟩ i).2.1 sCol).2 (wantM l (wordM l b ⟨27, i, 0, e0, 0⟩ i).2.2 (wordM l b ⟨27, i, 0, e0, 0⟩ i).2.1 sCol).1 = some t ∧
      ((0 ≤ t.2.2 ∨ isM l t.2.1 sShut = true) → r = (.one { (wordM l b ⟨27, i, 0, e0, 0⟩ i).1 with til := t.2.1 } t.1, t.2.1, t.2.2)) ∧
      (¬ (0 ≤ t.2.2 ∨ isM l t.2.1 sShut = true) → ∃ r', exM l f' (.entries false) (wantM l t.2.2 t.2.1 sCom).2 (wantM l t.2.2 t.2.1 sCom).1 = some r' ∧ r = ((Fo.one { (wordM l b ⟨27, i, 0, e0, 0⟩ i).1 with til := t.2.1 } t.1).app r'.1, r'.2)) := by
  cases f with
  | zero => rw [exM] at h; cases h
  | succ f =>
    rw [exM, if_pos hc] at h
    obtain ⟨t, h1, h2⟩ := Option.bind_eq_some_iff.1 h
    refine ⟨f, t, rfl, h1, fun hh => ?_, fun hh => ?_⟩
    · rw [if_pos hh] at h2; injection h2 with h2; exact h2.symm
    · rw [if_neg hh] at h2
      obtain ⟨r', h3, h4⟩ := Option.map_eq_some_iff.1 h2
      exact ⟨r', h3, h4.symm⟩
set_option maxHeartbeats 16000000 in
set_option maxRecDepth 100000 in
theorem atom_c (X : Cx) (f : Nat) (hf : f ≤ 1000000) (IE : ∀ f', f' ≤ f → ExC X f' .expr 100) (IL : LamC X f) : ExC X (f + 1) .atom 104 := by
  intro b i w r hr hS hi
  have hle := hS.wf.le
  have WF := Lib.hid hS.wf
  have hrb := hS.row.lt
  have rr := hS.row.cell
  have LS0 := Lib.hid (LS.start hS)
  obtain ⟨j, hj⟩ : ∃ j, j = i + 1 := ⟨_, rfl⟩
  have e1 : IntKind.i64.wrap ((i : Int) + 1) = (j : Int) := by rw [IntKind.wrap_i64]; omega
  rw [exM, ← hj] at hr
  by_cases hb : 0 ≤ b
  · have hb2 : b ≥ 0 := hb
    rw [if_pos hb] at hr
    injection hr with hr
    subst hr
    have L0 := Lib.hid ((LS0.out.alloc w.heap.size rfl 25 zc).alloc (w.heap.size + 1) (by simp) 25 (nc ⟨0, i, j, e0, i⟩ none 0 0))
    clear hS hb hj
    go_enter Try.func104, Try.ntmps104
    go_wp2
    refine bodyPost_ret ?_ rfl ⟨⟨0, 0, 0, e0, 0⟩, .nil, none, 0, rfl, rfl, KV.nil _ _ _ _, L0.out.st, L0.out.fr, hi⟩
    simp [results, Try.results104, go_sem, e0, Fo.len]
  have hb2 : ¬ b ≥ 0 := by omega
  rw [if_neg hb] at hr
  obtain ⟨g, eg, lg, hc⟩ := hS.toks
  obtain ⟨c0, c1, c2, c3⟩ := hc i hi
  have hcap := hS.cap
  have hkg := kindAt_get hi
  have htg := textAt_get hi
  have hnk := Lib.hid (hS.wf.next i hi)
  have hil : (i : Int) < (X.l.length : Int) := by omega
  have hlg : g < w.heap.size := by omega
  rw [hkg, htg] at hr
  generalize X.l[i] = t at *
  obtain ⟨tk, ta, tl, tx⟩ := t
  dsimp only at *
  rw [eg] at rr
  have HR := Lib.hid hr
  have fin : ∀ kd : Nat, Hid (LS X w (((w.alloc (.cells (nc ⟨kd, i, j, tx, i⟩ none 0 0) 25)).alloc (.cells (nc ⟨kd, i, j, tx, i⟩ none 0 0) 25)).alloc (.cells #[.int .i64 tk, .int .i64 ta, .string tl, .string tx] 53)) b [(w.heap.size + 2, 53, #[.int .i64 tk, .int .i64 ta, .string tl, .string tx]), (w.heap.size + 1, 25, nc ⟨kd, i, j, tx, i⟩ none 0 0), (w.heap.size, 25, nc ⟨kd, i, j, tx, i⟩ none 0 0)] [] (.slice none 0 0) .nil) := fun kd =>
    ((LS0.out.alloc w.heap.size rfl 25 (nc ⟨kd, i, j, tx, i⟩ none 0 0)).alloc (w.heap.size + 1) (by simp) 25 (nc ⟨kd, i, j, tx, i⟩ none 0 0)).alloc (w.heap.size + 2) (by simp) 53 #[.int .i64 tk, .int .i64 ta, .string tl, .string tx]
  have FIN := Lib.hid fin
  have L0 := Lib.hid (((LS0.out.alloc w.heap.size rfl 25 zc).alloc (w.heap.size + 1) (by simp) 25 (nc ⟨0, i, j, tx, i⟩ none 0 0)).alloc (w.heap.size + 2) (by simp) 53 #[.int .i64 tk, .int .i64 ta, .string tl, .string tx])
  clear hr hc hkg htg fin hb
  by_cases k3 : tk = 3
  · have hr := HR.out
    rw [if_pos k3] at hr
    injection hr with hr
    subst hr
    have hjl : j < X.l.length := by have := hnk.out (by omega); omega
    have L := FIN.out 21
    have d3 : ((tk : Int) == 3) = true := by rw [beq_iff_eq]; omega
    have HL := Lib.hid L
    clear hS k3 HR FIN L hj
    go_enter Try.func104, Try.ntmps104
    go_wp2
    refine bodyPost_ret ?_ rfl ⟨⟨21, i, j, tx, i⟩, .nil, none, 0, rfl, rfl, KV.nil _ _ _ _, HL.out.st, HL.out.fr, hjl⟩
    simp [results, Try.results104, go_sem, Fo.len]
  by_cases k4 : tk = 4
  · have hr := HR.out
    rw [if_neg k3, if_pos k4] at hr
    injection hr with hr
    subst hr
    have hjl : j < X.l.length := by have := hnk.out (by omega); omega
    have L := FIN.out 22
    have d3 : ((tk : Int) == 3) = false := by rw [beq_eq_false_iff_ne]; omega
    have d4 : ((tk : Int) == 4) = true := by rw [beq_iff_eq]; omega
    have HL := Lib.hid L
    clear hS k3 k4 HR FIN L hj
    go_enter Try.func104, Try.ntmps104
    go_wp2
    refine bodyPost_ret ?_ rfl ⟨⟨22, i, j, tx, i⟩, .nil, none, 0, rfl, rfl, KV.nil _ _ _ _, HL.out.st, HL.out.fr, hjl⟩
    simp [results, Try.results104, go_sem, Fo.len]
  by_cases k1 : tk = 1
  · have hr := HR.out
    rw [if_neg k3, if_neg k4, if_pos k1] at hr
    injection hr with hr
    subst hr
    have hjl : j < X.l.length := by have := hnk.out (by omega); omega
    have L := FIN.out 23
    have d3 : ((tk : Int) == 3) = false := by rw [beq_eq_false_iff_ne]; omega
    have d4 : ((tk : Int) == 4) = false := by rw [beq_eq_false_iff_ne]; omega
    have d1 : ((tk : Int) == 1) = true := by rw [beq_iff_eq]; omega
    have HL := Lib.hid L
    clear hS k3 k4 k1 HR FIN L hj
    go_enter Try.func104, Try.ntmps104
    go_wp2
    refine bodyPost_ret ?_ rfl ⟨⟨23, i, j, tx, i⟩, .nil, none, 0, rfl, rfl, KV.nil _ _ _ _, HL.out.st, HL.out.fr, hjl⟩
    simp [results, Try.results104, go_sem, Fo.len]
  have hr := HR.out
  rw [if_neg k3, if_neg k4, if_neg k1] at hr
  have d3 : ((tk : Int) == 3) = false := by rw [beq_eq_false_iff_ne]; omega
  have d4 : ((tk : Int) == 4) = false := by rw [beq_eq_false_iff_ne]; omega
  have d1 : ((tk : Int) == 1) = false := by rw [beq_eq_false_iff_ne]; omega
  have ISK := Lib.hid (fun (x : ByteArray) w' h => is_any X b i x w' h hi)
  have HR := Lib.hid hr
  have n0 := (L0.out.row 0 rfl).cell
  clear hS k3 k4 k1 FIN hr
  have ci := ISK.out ⟨#[105, 110, 112, 117, 116]⟩ _ L0.out.st
  cases qi : isM X.l i kInput
  case true =>
    have hr := HR.out
    rw [if_pos qi] at hr
    injection hr with hr
    subst hr
    have hjl := isM_next WF.out qi
    rw [← hj] at hjl
    rw [show isM X.l i (⟨#[105, 110, 112, 117, 116]⟩ : ByteArray).data.toList = true from qi] at ci
    have CI := Lib.hid ci
    clear ci qi HR hj
    go_enter Try.func104, Try.ntmps104
    go_wp2_with fail
    refine CI.out.mono ?_
    rintro e w1 ⟨rfl, hb1⟩
    have L1 := Lib.hid (L0.out.other hb1)
    clear hb1 n0
    have Lz := Lib.hid (L1.out.put6 2 rfl rfl (.int .i64 24) (.int .i64 i) (.int .i64 j) (.string e0) (.int .i64 0) (.slice none 0 0))
    have r7 := (L1.out.row 2 rfl).cell
    have t7 := (L1.out.row 2 rfl).thaw
    go_wp2
    refine bodyPost_ret ?_ rfl ⟨⟨24, i, j, e0, 0⟩, .nil, none, 0, rfl, rfl, ?_, Lz.out.st, Lz.out.fr, hjl⟩
    · simp [results, Try.results104, go_sem, e0, r7, Fo.len]
    · exact KV.nil _ _ _ _
  case false =>
  rw [show isM X.l i (⟨#[105, 110, 112, 117, 116]⟩ : ByteArray).data.toList = false from qi] at ci
  have CI := Lib.hid ci
  have hr := HR.out
  rw [if_neg (by rw [qi]; simp)] at hr
  have HR := Lib.hid hr
  have HJ := Lib.hid hj
  clear hr ci qi hj
  go_enter Try.func104, Try.ntmps104
  go_wp2_with fail
  refine CI.out.mono ?_
  rintro e w1 ⟨rfl, hb1⟩
  have L1 := Lib.hid (L0.out.other hb1)
  clear hb1 n0 rr
  have cp := ISK.out ⟨#[40]⟩ _ L1.out.st
  cases qp : isM X.l i sParO
  case true =>
    have hr := HR.out
    rw [if_pos qp] at hr
    obtain ⟨⟨xf, p1, q1⟩, hx, hr2⟩ := Option.bind_eq_some_iff.1 hr
    obtain ⟨⟨p2, q2⟩, hy⟩ : ∃ y, y = wantM X.l q1 p1 sParS := ⟨_, rfl⟩
    dsimp only at hr2
    rw [← hy] at hr2
    injection hr2 with hr2
    subst hr2
    have hjl := isM_next WF.out qp
    rw [← HJ.out] at hjl
    rw [show isM X.l i (⟨#[40]⟩ : ByteArray).data.toList = true from qp] at cp
    have CP := Lib.hid cp
    have C2 : Hid (∀ w', St X w' b → Calls Try.prog 100 #[X.p, .int .i64 j] w' fun e w'' => NodeP X w' (xf, p1, q1) e w'') := fun w' h => IE f (Nat.le_refl _) b j w' _ hx h hjl
    have C3 : Hid (p1 < X.l.length → ∀ w', St X w' q1 → Calls Try.prog 83 #[X.p, .int .i64 p1, .string ⟨#[41]⟩] w' fun e w'' => AtP X w' (p2, q2) e w'') := fun hl w' h => by rw [hy]; exact want_any X q1 p1 ⟨#[41]⟩ w' h hl
    clear cp qp hx hy HR hr
    go_wp2_with fail
    refine CP.out.mono ?_
    rintro e w2 ⟨rfl, hb2'⟩
    have L2 := Lib.hid (L1.out.other hb2')
    clear hb2'
    go_wp2_with fail
    refine (C2.out _ L2.out.st).mono ?_
    rintro e w3 ⟨h5, k5, A5, c5, e5, rfl, hK5, hS5, hF5, hl5⟩
    dsimp only at e5 hS5 hl5
    subst e5
    obtain ⟨z1, z2, z3, z4, z5⟩ := h5
    have L3 := Lib.hid ((L2.out.kid hS5 hF5 hK5).alloc w3.heap.size rfl 25 (nc ⟨z1, z2, z3, z4, z5⟩ A5 k5.len c5))
    clear hS5 hF5 hK5
    go_wp2_with fail
    refine (C3.out hl5 _ L3.out.st).mono ?_
    rintro e w4 ⟨rfl, hS6, hF6, hl6⟩
    have L4 := Lib.hid (L3.out.step hS6 hF6)
    have L5 := Lib.hid (L4.out.slice w4.heap.size rfl (k := .one ⟨z1, z2, z3, z4, z5⟩ k5) (cs := nc ⟨z1, z2, z3, z4, z5⟩ A5 k5.len c5) (FC.one (L4.out.kidP 0 rfl)))
    have m3 := (L4.out.row 0 rfl).cell
    clear hS6 hF6
    go_wp2_with fail
    refine (ended_any ⟨25, i, 0, e0, 0⟩ none 0 0 p2 (some ⟨w4.heap.size, 0, none⟩) 1 1 _).mono ?_
    rintro e w5 ⟨rfl, hb5⟩
    have L6 := Lib.hid (L5.out.other hb5).drop
    clear hb5 m3
    have Lz := Lib.hid (L6.out.put6 2 rfl rfl (.int .i64 25) (.int .i64 i) (.int .i64 p2) (.string e0) (.int .i64 0) (.slice (some ⟨w4.heap.size, 0, none⟩) 1 1))
    have r7 := (L6.out.row 2 rfl).cell
    have t7 := (L6.out.row 2 rfl).thaw
    go_wp2
    refine bodyPost_ret ?_ rfl ⟨⟨25, i, p2, e0, 0⟩, (.one ⟨z1, z2, z3, z4, z5⟩ k5), (some ⟨w4.heap.size, 0, none⟩), 1, rfl, rfl, ?_, Lz.out.st, Lz.out.fr, hl6⟩
    · simp [results, Try.results104, go_sem, e0, r7]
      rfl
    · exact (Lz.out.kidP 0 rfl).new_ (fun g h => h.1)
  case false =>
  rw [show isM X.l i (⟨#[40]⟩ : ByteArray).data.toList = false from qp] at cp
  have CP := Lib.hid cp
  have hr := HR.out
  rw [if_neg (by rw [qp]; simp)] at hr
  have HR := Lib.hid hr
  clear hr cp qp
  go_wp2_with fail
  refine CP.out.mono ?_
  rintro e w2 ⟨rfl, hb2'⟩
  have L2 := Lib.hid (L1.out.other hb2')
  clear hb2'
  have co := ISK.out ⟨#[123]⟩ _ L2.out.st
  cases qo : isM X.l i sOpen
  case false =>
    have hr := HR.out
    rw [if_neg (by rw [qo]; simp)] at hr
    obtain ⟨⟨p1, q1⟩, hy1⟩ : ∃ y, y = wantM X.l b i kFn := ⟨_, rfl⟩
    rw [← hy1] at hr
    obtain ⟨⟨xf, p2, q2⟩, hx, hr2⟩ := Option.bind_eq_some_iff.1 hr
    injection hr2 with hr2
    subst hr2
    rw [show isM X.l i (⟨#[123]⟩ : ByteArray).data.toList = false from qo] at co
    have CO := Lib.hid co
    have W1 : Hid (∀ w', St X w' b → Calls Try.prog 83 #[X.p, .int .i64 i, .string ⟨#[102, 110]⟩] w' fun e w'' => AtP X w' (p1, q1) e w'') := fun w' h => by rw [hy1]; exact want_any X b i ⟨#[102, 110]⟩ w' h hi
    have C2 : Hid (p1 < X.l.length → ∀ w', St X w' q1 → Calls Try.prog 84 #[X.p, .int .i64 p1] w' fun e w'' => NodesP X w' (xf, p2, q2) e w'') := fun hl w' h => IL q1 p1 w' _ hx h hl
    clear co qo hx hy1 HR hr
    go_wp2_with fail
    refine CO.out.mono ?_
    rintro e w3 ⟨rfl, hb3⟩
    have L3 := Lib.hid (L2.out.other hb3)
    clear hb3
    go_wp2_with fail
    refine (W1.out _ L3.out.st).mono ?_
    rintro e w4 ⟨rfl, hS4, hF4, hl4⟩
    have L4 := Lib.hid (L3.out.step hS4 hF4)
    clear hS4 hF4
    go_wp2_with fail
    refine (C2.out hl4 _ L4.out.st).mono ?_
    rintro e w5 ⟨A5, c5, rfl, hK5, hS5, hF5, hl5⟩
    dsimp only at hS5 hl5 hK5
    have L5 := Lib.hid (L4.out.kid hS5 hF5 hK5)
    clear hS5 hF5 hK5
    go_wp2_with fail
    refine (ended_any ⟨28, i, 0, e0, 0⟩ none 0 0 p2 A5 xf.len c5 _).mono ?_
    rintro e w6 ⟨rfl, hb6⟩
    have L6 := Lib.hid (L5.out.other hb6)
    clear hb6
    have Lz := Lib.hid (L6.out.put6 2 rfl rfl (.int .i64 28) (.int .i64 i) (.int .i64 p2) (.string e0) (.int .i64 0) (.slice A5 xf.len c5))
    have r7 := (L6.out.row 2 rfl).cell
    have t7 := (L6.out.row 2 rfl).thaw
    go_wp2
    refine bodyPost_ret ?_ rfl ⟨⟨28, i, p2, e0, 0⟩, xf, A5, c5, rfl, rfl, ?_, Lz.out.st, Lz.out.fr, hl5⟩
    · simp [results, Try.results104, go_sem, e0, r7]
    · exact (Lz.out.kidP 0 rfl).new_ (fun g h => h.1)
  case true =>
  have hr := HR.out
  rw [if_pos qo] at hr
  obtain ⟨⟨xf, xi, xb⟩, hx, hr2⟩ := Option.bind_eq_some_iff.1 hr
  obtain ⟨⟨yi, yb⟩, hy⟩ : ∃ y, y = wantM X.l xb xi sShut := ⟨_, rfl⟩
  dsimp only at hr2
  rw [← hy] at hr2
  injection hr2 with hr2
  subst hr2
  have hjl := isM_next WF.out qo
  rw [← HJ.out] at hjl
  rw [show isM X.l i (⟨#[123]⟩ : ByteArray).data.toList = true from qo] at co
  have CO := Lib.hid co
  have HX := Lib.hid hx
  have WT : Hid (∀ w', St X w' xb → xi < X.l.length → Calls Try.prog 83 #[X.p, .int .i64 xi, .string ⟨#[125]⟩] w' fun e w'' => AtP X w' (yi, yb) e w'') := fun w' h hl => by rw [hy]; exact want_any X xb xi ⟨#[125]⟩ w' h hl
  clear co qo hx hy HR hr ISK
  go_wp2_with fail
  refine CO.out.mono ?_
  rintro e w3 ⟨rfl, hb3⟩
  have L3 := Lib.hid (L2.out.other hb3)
  clear hb3
  go_wp2_with fail
  go_loopg [6, 11] (f + 1) (fun kx s6 s9 wr => ∃ (fk ik : Nat) (bk : Int) (Kk : Fo) (rk : Fo × Nat × Int) (u : Value), u = s9 ∧ s6 = .int .i64 ik ∧ fk ≤ kx ∧ Kk.len + fk ≤ f ∧ ik < X.l.length ∧ Hid (exM X.l fk (.entries (decide (Kk.len = 0))) bk ik = some rk) ∧ Hid (xf = Kk.app rk.1 ∧ xi = rk.2.1 ∧ xb = rk.2.2) ∧ Hid (LS X w wr bk [(w.heap.size + 2, 53, #[.int .i64 tk, .int .i64 ta, .string tl, .string tx]), (w.heap.size + 1, 25, nc ⟨0, i, j, tx, i⟩ none 0 0), (w.heap.size, 25, zc)] [] s9 Kk))
  case atStart => exact ⟨f, j, b, .nil, (xf, xi, xb), _, rfl, by go_num, by omega, by simp [Fo.len], hjl, HX.out, ⟨rfl, rfl, rfl⟩, L3.out⟩
  case round =>
    obtain ⟨fk, ik, bk, Kk, rk, u, rfl, rfl, hkx, hfk, hik, HG, HE, LK⟩ := hrel
    obtain ⟨z, hz⟩ : ∃ z : Bool, (z = true ↔ (bk < 0 ∧ ¬ (decide (Kk.len = 0) = true ∧ isM X.l ik sShut = true))) := by
      by_cases h : bk < 0 ∧ ¬ (decide (Kk.len = 0) = true ∧ isM X.l ik sShut = true)
      · exact ⟨true, by simp only [h, not_false_eq_true, and_self]⟩
      · exact ⟨false, by simp only [Bool.false_eq_true, false_iff]; exact h⟩
    have HZ := Lib.hid hz
    have rk0 := LK.out.st.row.cell
    obtain ⟨AK, cK, eK, hcK, _⟩ := LK.out.list
    obtain rfl := eK
    have ISK := Lib.hid (fun (x : ByteArray) w' h => is_any X bk ik x w' h hik)
    clear hz
    go_upto_region 26 with fail
    go_cut [108] from 93 to 147 (fun s64 wx => s64 = .bool z ∧ Hid (LS X w wx bk [(w.heap.size + 2, 53, #[.int .i64 tk, .int .i64 ta, .string tl, .string tx]), (w.heap.size + 1, 25, nc ⟨0, i, j, tx, i⟩ none 0 0), (w.heap.size, 25, zc)] [] (.slice AK Kk.len cK) Kk))
    case first =>
      by_cases h1 : bk < 0
      · by_cases h2 : Kk.len = 0
        · have d2 : ((Kk.len : Int) == 0) = true := by rw [beq_iff_eq]; omega
          have H2 := Lib.hid h2
          clear h2
          have C := ISK.out ⟨#[125]⟩ wr LK.out.st
          cases hq : isM X.l ik sShut
          · rw [show isM X.l ik (⟨#[125]⟩ : ByteArray).data.toList = false from hq] at C
            have CC := Lib.hid C
            obtain rfl : z = true := HZ.out.2 ⟨h1, by rw [hq]; simp⟩
            clear C hq
            go_wp2_with fail
            refine CC.out.mono ?_
            rintro e wq ⟨rfl, hbl⟩
            have LQ := Lib.hid (LK.out.other hbl)
            clear hbl
            go_wp2_with fail
            go_meet
            exact ⟨rfl, LQ.out⟩
          · rw [show isM X.l ik (⟨#[125]⟩ : ByteArray).data.toList = true from hq] at C
            have CC := Lib.hid C
            obtain rfl : z = false := by
              cases z
              · rfl
              · exact absurd ⟨decide_eq_true H2.out, hq⟩ (HZ.out.1 rfl).2
            clear C hq
            go_wp2_with fail
            refine CC.out.mono ?_
            rintro e wq ⟨rfl, hbl⟩
            have LQ := Lib.hid (LK.out.other hbl)
            clear hbl
            go_wp2_with fail
            go_meet
            exact ⟨rfl, LQ.out⟩
        · have d2 : ((Kk.len : Int) == 0) = false := by rw [beq_eq_false_iff_ne]; omega
          obtain rfl : z = true := HZ.out.2 ⟨h1, fun hh => h2 (of_decide_eq_true hh.1)⟩
          clear h2
          go_wp2_with fail
          go_meet
          exact ⟨rfl, LK.out⟩
      · obtain rfl : z = false := by
          cases z
          · rfl
          · exact absurd (HZ.out.1 rfl).1 h1
        go_wp2_with fail
        go_meet
        exact ⟨rfl, LK.out⟩
    case rest =>
    obtain ⟨rfl, LC⟩ := hcut
    clear LK rk0 ISK
    cases z
    · have hrk := entries_end HG.out (fun hh => by have := HZ.out.2 hh; cases this)
      obtain ⟨h1, h2, h3⟩ := HE.out
      rw [hrk, Fo.app_nil] at h1
      rw [hrk] at h2 h3
      dsimp only at h1 h2 h3
      subst h1 h2 h3
      have hxl := hik
      clear HG HE HZ hrk
      go_wp2_with fail
      refine (WT.out _ LC.out.st hxl).mono ?_
      rintro e wa ⟨rfl, hSa, hFa, hla⟩
      have La := Lib.hid (LC.out.step hSa hFa)
      clear hSa hFa
      go_wp2_with fail
      refine (ended_any ⟨26, i, 0, e0, 0⟩ none 0 0 yi AK xf.len cK _).mono ?_
      rintro e wb ⟨rfl, hbb⟩
      have Lb := Lib.hid ((La.out.other hbb).put6 2 rfl rfl (.int .i64 26) (.int .i64 i) (.int .i64 yi) (.string e0) (.int .i64 0) (.slice AK xf.len cK))
      have r7 := ((La.out.other hbb).row 2 rfl).cell
      have t7 := ((La.out.other hbb).row 2 rfl).thaw
      clear hbb
      go_wp2
      refine bodyPost_ret ?_ rfl ⟨⟨26, i, yi, e0, 0⟩, xf, AK, cK, rfl, rfl, ?_, Lb.out.st, Lb.out.fr, hla⟩
      · simp [results, Try.results104, go_sem, e0, r7]
      · exact Lb.out.kv
    · obtain ⟨hbk, hfirst⟩ := HZ.out.1 rfl
      obtain ⟨f', t, hf', hty, hstop, hmore⟩ := entries_go HG.out ⟨hbk, hfirst⟩
      obtain ⟨⟨⟨k1, f1, t1, wd1, q1⟩, a1, b1⟩, h1⟩ : ∃ r, r = wordM X.l bk ⟨27, ik, 0, e0, 0⟩ ik := ⟨_, rfl⟩
      rw [← h1] at hty hstop hmore
      dsimp only at hty hstop hmore
      obtain ⟨⟨a2, b2⟩, h2⟩ : ∃ r, r = wantM X.l b1 a1 sCol := ⟨_, rfl⟩
      rw [← h2] at hty
      obtain ⟨tf, a3, b3⟩ := t
      dsimp only at hty hstop hmore
      obtain ⟨⟨a4, b4⟩, h4⟩ : ∃ r, r = wantM X.l b3 a3 sCom := ⟨_, rfl⟩
      rw [← h4] at hmore
      dsimp only at hmore
      have C1 : Hid (∀ w', St X w' bk → Calls Try.prog 82 #[X.p, nv ⟨27, ik, 0, e0, 0⟩ none 0 0, .int .i64 ik] w' fun e w'' => WordP X w' (⟨k1, f1, t1, wd1, q1⟩, a1, b1) none 0 0 e w'') := fun w' h => by rw [h1]; exact word_any X bk _ none 0 0 ik w' h hik
      have C2 : Hid (a1 < X.l.length → ∀ w', St X w' b1 → Calls Try.prog 83 #[X.p, .int .i64 a1, .string ⟨#[58]⟩] w' fun e w'' => AtP X w' (a2, b2) e w'') := fun hl w' h => by rw [h2]; exact want_any X b1 a1 ⟨#[58]⟩ w' h hl
      have C3 : Hid (a2 < X.l.length → ∀ w', St X w' b2 → Calls Try.prog 100 #[X.p, .int .i64 a2] w' fun e w'' => NodeP X w' (tf, a3, b3) e w'') := fun hl w' h => IE f' (by omega) b2 a2 w' _ hty h hl
      have C4 : Hid (a3 < X.l.length → ∀ w', St X w' b3 → Calls Try.prog 83 #[X.p, .int .i64 a3, .string ⟨#[44]⟩] w' fun e w'' => AtP X w' (a4, b4) e w'') := fun hl w' h => by rw [h4]; exact want_any X b3 a3 ⟨#[44]⟩ w' h hl
      have C5 : Hid (a3 < X.l.length → ∀ w', St X w' b3 → Calls Try.prog 53 #[X.p, .int .i64 a3, .string ⟨#[125]⟩] w' fun e w'' => e = .returned (.bool (isM X.l a3 sShut)) ∧ Below w'.heap.size w' w'') := fun hl w' h => is_any X b3 a3 ⟨#[125]⟩ w' h hl
      have HSTOP := Lib.hid hstop
      have HMORE := Lib.hid hmore
      have HF' := Lib.hid hf'
      clear h1 h4 hty hstop hmore HG HZ hfirst hf' hbk
      go_wp2_with fail
      refine (C1.out _ LC.out.st).mono ?_
      rintro e w3 ⟨rfl, hS3, hF3, hl3⟩
      have M1 := Lib.hid ((LC.out.step hS3 hF3).alloc w3.heap.size rfl 25 (nc ⟨k1, f1, t1, wd1, q1⟩ none 0 0))
      clear hS3 hF3
      go_wp2_with fail
      refine (C2.out hl3 _ M1.out.st).mono ?_
      rintro e w4 ⟨rfl, hS4, hF4, hl4⟩
      have M2 := Lib.hid (M1.out.step hS4 hF4)
      clear hS4 hF4
      go_wp2_with fail
      refine (C3.out hl4 _ M2.out.st).mono ?_
      rintro e w5 ⟨h5, k5, A5, c5, e5, rfl, hK5, hS5, hF5, hl5⟩
      dsimp only at e5 hS5 hl5
      subst e5
      obtain ⟨hk1, hk2, hk3, hk4, hk5⟩ := h5
      have M3 := Lib.hid ((M2.out.kid hS5 hF5 hK5).alloc w5.heap.size rfl 25 (nc ⟨hk1, hk2, hk3, hk4, hk5⟩ A5 k5.len c5))
      have m1 := (M3.out.row 0 rfl).cell
      have m2 := (M3.out.row 1 rfl).cell
      clear hS5 hF5 hK5
      go_wp2_with fail
      have M4 := Lib.hid (M3.out.slice (w5.heap.size + 1) (by simp) (k := .one ⟨hk1, hk2, hk3, hk4, hk5⟩ k5) (cs := nc ⟨hk1, hk2, hk3, hk4, hk5⟩ A5 k5.len c5) (FC.one (M3.out.kidP 0 rfl)))
      refine (ended_any ⟨k1, f1, t1, wd1, q1⟩ none 0 0 a3 (some ⟨w5.heap.size + 1, 0, none⟩) 1 1 _).mono ?_
      rintro e w6 ⟨rfl, hb6⟩
      have M6 := Lib.hid ((M4.out.other hb6).other (bel1 w6 (.cells (nc ⟨k1, f1, a3, wd1, q1⟩ (some ⟨w5.heap.size + 1, 0, none⟩) 1 1) 25)))
      clear hb6 m1 m2
      obtain ⟨cs, o1, o2⟩ := M6.out.own
      have O1 := Lib.hid o1
      have O2 := Lib.hid o2
      obtain ⟨i0, hi0, hz0, hz1, hz2⟩ := info_parts info25
      have b5 := Lib.hid M6.out.size
      have b3' : Kk.len + 1 ≤ maxLen := by unfold maxLen; omega
      have b4' : (Kk.len + 1) * 72 ≤ 140737488355328 := by omega
      have CN := Lib.hid (cells_nd w6 (.int .i64 k1) (.int .i64 f1) (.int .i64 a3) (.string wd1) (.int .i64 q1) (.slice (some ⟨w5.heap.size + 1, 0, none⟩) 1 1))
      clear o1 o2
      go_wp2_with (at_builtin; refine wpList_append_at rfl (.tmp 127) (.tmp 133) 23 rfl w.heap.size 25 i0 (.agg #[.int .i64 0, .int .i64 0, .int .i64 0, .string ⟨#[]⟩, .int .i64 0, .slice none 0 0]) 6 72 Try.underlying23 hi0 hz0 hz1 hz2 rfl (by decide) _ Kk.len cs rfl O1.out ⟨w6.heap.size, 0, none⟩ 1 1 [.int .i64 k1, .int .i64 f1, .int .i64 a3, .string wd1, .int .i64 q1, .slice (some ⟨w5.heap.size + 1, 0, none⟩) 1 1] rfl rfl CN.out (one_nd ⟨k1, f1, a3, wd1, q1⟩ _ _ _) b3' b4' b5.out ?_)
      intro v' w7 hown' hgrow hat
      have M7 := Lib.hid (M6.out.push ⟨O1.out, O2.out⟩ (k := .one ⟨k1, f1, a3, wd1, q1⟩ (.one ⟨hk1, hk2, hk3, hk4, hk5⟩ k5)) (FC.one (M6.out.kidP 0 rfl)) hown' hgrow (fun j hj => by
        rcases hat j hj with h | h
        · exact .inl h
        · exact .inr (by simpa using h)))
      clear hown' hgrow hat b3' b4' b5 CN O1 O2
      have M7 := Lib.hid M7.out.drop.drop.noK
      have hKl : (Kk.app (.one ⟨k1, f1, a3, wd1, q1⟩ (.one ⟨hk1, hk2, hk3, hk4, hk5⟩ k5))).len = Kk.len + 1 := by rw [Fo.len_app]; rfl
      have HKL := Lib.hid hKl
      have n7 := M7.out.st.row.cell
      clear hKl
      by_cases hb3 : 0 ≤ b3
      · have hrk := HSTOP.out (.inl hb3)
        obtain ⟨h1, h2, h3⟩ := HE.out
        rw [hrk] at h1 h2 h3
        dsimp only at h1 h2 h3
        have hKL2 : xf.len ≤ 1000010 := by
          have := HKL.out
          rw [← h1] at this
          omega
        subst h2 h3
        obtain ⟨A7, c7, e7, hc7, hk7⟩ := M7.out.list
        rw [← h1] at e7 M7
        subst e7
        have hxl := hl5
        have hb3' : xb ≥ 0 := hb3
        clear HE HSTOP HMORE hrk h1 HKL
        go_wp2_with fail
        refine (WT.out _ M7.out.st hxl).mono ?_
        rintro e wa ⟨rfl, hSa, hFa, hla⟩
        have La := Lib.hid (M7.out.step hSa hFa)
        clear hSa hFa
        go_wp2_with fail
        refine (ended_any ⟨26, i, 0, e0, 0⟩ none 0 0 yi A7 xf.len c7 _).mono ?_
        rintro e wb ⟨rfl, hbb⟩
        have Lb := Lib.hid ((La.out.other hbb).put6 2 rfl rfl (.int .i64 26) (.int .i64 i) (.int .i64 yi) (.string e0) (.int .i64 0) (.slice A7 xf.len c7))
        have r7 := ((La.out.other hbb).row 2 rfl).cell
        have t7 := ((La.out.other hbb).row 2 rfl).thaw
        clear hbb
        go_wp2
        refine bodyPost_ret ?_ rfl ⟨⟨26, i, yi, e0, 0⟩, xf, A7, c7, rfl, rfl, ?_, Lb.out.st, Lb.out.fr, hla⟩
        · simp [results, Try.results104, go_sem, e0, r7]
        · exact Lb.out.kv
      · have hb3' : ¬ b3 ≥ 0 := by omega
        have c5' := C5.out hl5 w7 M7.out.st
        cases hq : isM X.l a3 sShut
        · obtain ⟨r', hG', hrk⟩ := HMORE.out (fun hh => by rcases hh with hh | hh; exact hb3 hh; rw [hq] at hh; cases hh)
          rw [hq] at c5'
          have CC := Lib.hid c5'
          obtain ⟨h1, h2, h3⟩ := HE.out
          rw [hrk] at h1 h2 h3
          dsimp only at h1 h2 h3
          have HE2 := Lib.hid (show xf = (Kk.app (.one ⟨k1, f1, a3, wd1, q1⟩ (.one ⟨hk1, hk2, hk3, hk4, hk5⟩ k5))).app r'.1 ∧ xi = r'.2.1 ∧ xb = r'.2.2 from ⟨by rw [h1, Fo.app_assoc], h2, h3⟩)
          have HG2 : Hid (exM X.l f' (.entries (decide ((Kk.app (.one ⟨k1, f1, a3, wd1, q1⟩ (.one ⟨hk1, hk2, hk3, hk4, hk5⟩ k5))).len = 0))) b4 a4 = some r') := by
            unfold Hid; rw [HKL.out, show decide (Kk.len + 1 = 0) = false by simp]; exact hG'
          clear HE HSTOP HMORE hrk h1 h2 h3 hG' hq c5' hb3
          go_wp2_with fail
          refine CC.out.mono ?_
          rintro e w8 ⟨rfl, hb8⟩
          have M8 := Lib.hid (M7.out.other hb8)
          clear hb8 n7
          go_wp2_with fail
          refine (C4.out hl5 _ M8.out.st).mono ?_
          rintro e w9 ⟨rfl, hS9, hF9, hl9⟩
          have M9 := Lib.hid (M8.out.step hS9 hF9)
          have hf'' := HF'.out
          have hkl := HKL.out
          clear hS9 hF9 HKL
          go_wp2_with fail
          go_roundg f'
          case measure => omega
          case rel => exact ⟨f', a4, b4, _, r', _, rfl, by go_num, by omega, by omega, hl9, HG2.out, HE2.out, M9.out⟩
        · have hrk := HSTOP.out (.inr hq)
          rw [hq] at c5'
          have CC := Lib.hid c5'
          obtain ⟨h1, h2, h3⟩ := HE.out
          rw [hrk] at h1 h2 h3
          dsimp only at h1 h2 h3
          have hKL2 : xf.len ≤ 1000010 := by
            have := HKL.out
            rw [← h1] at this
            omega
          subst h2 h3
          obtain ⟨A7, c7, e7, hc7, hk7⟩ := M7.out.list
          rw [← h1] at e7 M7
          subst e7
          have hxl := hl5
          clear HE HSTOP HMORE hrk h1 hq c5' hb3 HKL
          go_wp2_with fail
          refine CC.out.mono ?_
          rintro e w8 ⟨rfl, hb8⟩
          have M8 := Lib.hid (M7.out.other hb8)
          clear hb8 n7
          go_wp2_with fail
          refine (WT.out _ M8.out.st hxl).mono ?_
          rintro e wa ⟨rfl, hSa, hFa, hla⟩
          have La := Lib.hid (M8.out.step hSa hFa)
          clear hSa hFa
          go_wp2_with fail
          refine (ended_any ⟨26, i, 0, e0, 0⟩ none 0 0 yi A7 xf.len c7 _).mono ?_
          rintro e wb ⟨rfl, hbb⟩
          have Lb := Lib.hid ((La.out.other hbb).put6 2 rfl rfl (.int .i64 26) (.int .i64 i) (.int .i64 yi) (.string e0) (.int .i64 0) (.slice A7 xf.len c7))
          have r7 := ((La.out.other hbb).row 2 rfl).cell
          have t7 := ((La.out.other hbb).row 2 rfl).thaw
          clear hbb
          go_wp2
          refine bodyPost_ret ?_ rfl ⟨⟨26, i, yi, e0, 0⟩, xf, A7, c7, rfl, rfl, ?_, Lb.out.st, Lb.out.fr, hla⟩
          · simp [results, Try.results104, go_sem, e0, r7]
          · exact Lb.out.kv
end Ps
end Go.Proofs.Ytnefnnoleeeedaa
namespace Go.Proofs.Ytnefnnoleeeedaa
open Go.RowKit
namespace Ps
def StmtOk (X : Cx) : Prop := ∀ f, f ≤ 1000000 → (∀ f', f' ≤ f → ExC X f' .expr 100) → (∀ f', f' ≤ f → ExC X f' .block 95) → ExC X (f + 1) .stmt 99
structure AllC (X : Cx) (f : Nat) : Prop where
  expr : ExC X f .expr 100
  sum : ExC X f .sum 101
  term : ExC X f .term 102
  post : ExC X f .post 103
  atom : ExC X f .atom 104
  lam : LamC X f
  block : ExC X f .block 95
  stmt : ExC X f .stmt 99
theorem none_c {X : Cx} {t : XT} {fn : Nat} : ExC X 0 t fn := fun b i w r h => by rw [exM] at h; cases h
theorem all_c (X : Cx) (hst : StmtOk X) : ∀ f, f ≤ 1000000 → AllC X f := by
  intro f
  induction f using Nat.strongRecOn with
  | _ f IH =>
  intro hf
  cases f with
  | zero => exact ⟨none_c, none_c, none_c, none_c, none_c, fun b i w r h => (by rw [exM] at h; cases h), none_c, none_c⟩
  | succ f =>
    have I := fun f' (h : f' ≤ f) => IH f' (by omega) (by omega)
    have I0 := I f (Nat.le_refl _)
    exact ⟨expr_c X f I0.sum, sum_c X f (fun f' h => (I f' h).term), term_c X f (fun f' h => (I f' h).post),
      post_c X f (by omega) I0.atom (fun f' h => (I f' h).expr), atom_c X f (by omega) (fun f' h => (I f' h).expr) I0.lam,
      lambda_c X f (by omega) I0.block, block_c X f (by omega) (fun f' h => (I f' h).stmt),
      hst f (by omega) (fun f' h => (I f' h).expr) (fun f' h => (I f' h).block)⟩
set_option maxHeartbeats 8000000 in
set_option maxRecDepth 100000 in
theorem def_c (X : Cx) (f : Nat) (IL : LamC X f) (b : Int) (i : Nat) (w : World) (r : Fo × Nat × Int) (hr : defM X.l f b i = some r) (hS : St X w b) (hi : i < X.l.length) :
    Calls Try.prog 55 #[X.p, .int .i64 i] w fun e w' => NodeP X w r e w' := by
  have L0 := Lib.hid ((LS.start hS).alloc w.heap.size rfl 25 zc)
  have hle := hS.wf.le
  have hrb := hS.row.lt
  unfold defM at hr
  obtain ⟨⟨p1, q1⟩, h1⟩ : ∃ y, y = wantM X.l b i kDef := ⟨_, rfl⟩
  obtain ⟨⟨⟨k1, f1, t1, wd1, u1⟩, p2, q2⟩, h2⟩ : ∃ r, r = wordM X.l q1 ⟨3, i, 0, e0, 0⟩ p1 := ⟨_, rfl⟩
  dsimp only at hr
  rw [← h1] at hr
  dsimp only at hr
  rw [← h2] at hr
  dsimp only at hr
  obtain ⟨⟨xf, p3, q3⟩, hx, hr2⟩ := Option.bind_eq_some_iff.1 hr
  injection hr2 with hr2
  subst hr2
  have W1 : Hid (∀ w', St X w' b → Calls Try.prog 83 #[X.p, .int .i64 i, .string ⟨#[100, 101, 102]⟩] w' fun e w'' => AtP X w' (p1, q1) e w'') := fun w' h => by rw [h1]; exact want_any X b i ⟨#[100, 101, 102]⟩ w' h hi
  have C2 : Hid (p1 < X.l.length → ∀ w', St X w' q1 → Calls Try.prog 82 #[X.p, nv ⟨3, i, 0, e0, 0⟩ none 0 0, .int .i64 p1] w' fun e w'' => WordP X w' (⟨k1, f1, t1, wd1, u1⟩, p2, q2) none 0 0 e w'') := fun hl w' h => by rw [h2]; exact word_any X q1 _ none 0 0 p1 w' h hl
  have C3 : Hid (p2 < X.l.length → ∀ w', St X w' q2 → Calls Try.prog 84 #[X.p, .int .i64 p2] w' fun e w'' => NodesP X w' (xf, p3, q3) e w'') := fun hl w' h => IL q2 p2 w' _ hx h hl
  clear hS hx h1 h2 hr
  go_enter Try.func55, Try.ntmps55
  go_wp2_with fail
  refine (W1.out _ L0.out.st).mono ?_
  rintro e w1 ⟨rfl, hS1, hF1, hl1⟩
  have L1 := Lib.hid (L0.out.step hS1 hF1)
  clear hS1 hF1
  go_wp2_with fail
  refine (C2.out hl1 _ L1.out.st).mono ?_
  rintro e w2 ⟨rfl, hS2, hF2, hl2⟩
  have L2 := Lib.hid ((L1.out.step hS2 hF2).alloc w2.heap.size rfl 25 (nc ⟨k1, f1, t1, wd1, u1⟩ none 0 0))
  clear hS2 hF2
  go_wp2_with fail
  refine (C3.out hl2 _ L2.out.st).mono ?_
  rintro e w3 ⟨A5, c5, rfl, hK5, hS5, hF5, hl5⟩
  dsimp only at hS5 hl5 hK5
  have L3 := Lib.hid (L2.out.kid hS5 hF5 hK5)
  have m3 := (L3.out.row 0 rfl).cell
  clear hS5 hF5 hK5
  go_wp2_with fail
  refine (ended_any ⟨k1, f1, t1, wd1, u1⟩ none 0 0 p3 A5 xf.len c5 _).mono ?_
  rintro e w4 ⟨rfl, hb4⟩
  have L4 := Lib.hid ((L3.out.other hb4).put6 1 rfl rfl (.int .i64 k1) (.int .i64 f1) (.int .i64 p3) (.string wd1) (.int .i64 u1) (.slice A5 xf.len c5))
  have r7 := ((L3.out.other hb4).row 1 rfl).cell
  have t7 := ((L3.out.other hb4).row 1 rfl).thaw
  clear hb4 m3
  go_wp2
  refine bodyPost_ret ?_ rfl ⟨⟨k1, f1, p3, wd1, u1⟩, xf, A5, c5, rfl, rfl, ?_, L4.out.st, L4.out.fr, hl5⟩
  · simp [results, Try.results55, go_sem, r7]
  · exact (L4.out.kidP 0 rfl).new_ (fun g h => h.1)
end Ps
end Go.Proofs.Ytnefnnoleeeedaa
