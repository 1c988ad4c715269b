import Derived.Test.YtnefnnoleeeedaaMAD
namespace Go.Proofs.Ytnefnnoleeeedaa
open Go.RowKit
namespace Ps
def plainB (k : Nat) : ByteArray := if k = 0 then ⟨#[105, 110, 116]⟩ else if k = 1 then ⟨#[115, 116, 114]⟩ else ⟨#[100, 121, 110]⟩
theorem ty_plain {l : List Tok} {f : Nat} {b : Int} {i k : Nat} (hb : b < 0) (hn : ∀ j, j < k → isM l i (plainB j).data.toList = false) (hk : k < 3) (h : isM l i (plainB k).data.toList = true) :
    tyM l (f + 1) .kind b i = some (.one ⟨29 + k, i, i + 1, e0, 0⟩ .nil, i + 1, b) := by
  rw [tyM, if_neg (by omega)]
  rcases (by omega : k = 0 ∨ k = 1 ∨ k = 2) with rfl | rfl | rfl
  · rw [if_pos (show isM l i kInt = true from h)]
  · rw [if_neg (by rw [show isM l i kInt = false from hn 0 (by omega)]; simp), if_pos (show isM l i kStr = true from h)]
  · rw [if_neg (by rw [show isM l i kInt = false from hn 0 (by omega)]; simp), if_neg (by rw [show isM l i kStr = false from hn 1 (by omega)]; simp), if_pos (show isM l i kDyn = true from h)]
theorem ty_open {l : List Tok} {f : Nat} {b : Int} {i : Nat} (hb : b < 0) (hn : ∀ j, j < 3 → isM l i (plainB j).data.toList = false) (h : isM l i sOpen = true) :
    tyM l (f + 1) .kind b i = (tyM l f (.recL true) b (i + 1)).bind fun x => some (.one ⟨32, i, (wantM l x.2.2 x.2.1 sShut).1, e0, 0⟩ x.1, (wantM l x.2.2 x.2.1 sShut).1, (wantM l x.2.2 x.2.1 sShut).2) := by
  rw [tyM, if_neg (by omega), if_neg (by rw [show isM l i kInt = false from hn 0 (by omega)]; simp), if_neg (by rw [show isM l i kStr = false from hn 1 (by omega)]; simp), if_neg (by rw [show isM l i kDyn = false from hn 2 (by omega)]; simp), if_pos h]
theorem ty_fn {l : List Tok} {f : Nat} {b : Int} {i : Nat} (hb : b < 0) (hn : ∀ j, j < 3 → isM l i (plainB j).data.toList = false) (h : isM l i sOpen = false) :
    tyM l (f + 1) .kind b i = (tyM l f (.fnL true) (wantM l (wantM l b i kFn).2 (wantM l b i kFn).1 sParO).2 (wantM l (wantM l b i kFn).2 (wantM l b i kFn).1 sParO).1).bind fun x =>
      (tyM l f .kind (wantM l (wantM l x.2.2 x.2.1 sParS).2 (wantM l x.2.2 x.2.1 sParS).1 sCol).2 (wantM l (wantM l x.2.2 x.2.1 sParS).2 (wantM l x.2.2 x.2.1 sParS).1 sCol).1).bind fun t =>
        some (.one ⟨34, i, t.2.1, e0, 0⟩ (x.1.app t.1), t.2.1, t.2.2) := by
  rw [tyM, if_neg (by omega), if_neg (by rw [show isM l i kInt = false from hn 0 (by omega)]; simp), if_neg (by rw [show isM l i kStr = false from hn 1 (by omega)]; simp), if_neg (by rw [show isM l i kDyn = false from hn 2 (by omega)]; simp), if_neg (by rw [h]; simp)]
theorem recL_end {l : List Tok} {f : Nat} {first : Bool} {b : Int} {i : Nat} {r : Fo × Nat × Int} (h : tyM l f (.recL first) b i = some r) (hc : ¬ (b < 0 ∧ ¬ (first = true ∧ isM l i sShut = true))) : r = (.nil, i, b) := by
  cases f with
  | zero => rw [tyM] at h; cases h
  | succ f => rw [tyM, if_neg hc] at h; injection h with h; exact h.symm
theorem recL_go {l : List Tok} {f : Nat} {first : Bool} {b : Int} {i : Nat} {r : Fo × Nat × Int} (h : tyM l f (.recL first) b i = some r) (hc : b < 0 ∧ ¬ (first = true ∧ isM l i sShut = true)) :
    ∃ f' t, f = f' + 1 ∧ tyM l f' .kind (wantM l (wordM l b ⟨33, i, 0, e0, 0⟩ i).2.2 (wordM l b ⟨33, i, 0, e0, 0⟩ i).2.1 sCol).2 (wantM l (wordM l b ⟨33, i, 0, e0, 0⟩ i).2.2 (wordM l b ⟨33, i, 0, e0, 0⟩ i).2.1 sCol).1 = some t ∧
      ((0 ≤ t.2.2 ∨ isM l t.2.1 sShut = true) → r = (.one { (wordM l b ⟨33, i, 0, e0, 0⟩ i).1 with til := t.2.1 } t.1, t.2.1, t.2.2)) ∧
      (¬ (0 ≤ t.2.2 ∨ isM l t.2.1 sShut = true) → ∃ r', tyM l f' (.recL false) (wantM l t.2.2 t.2.1 sCom).2 (wantM l t.2.2 t.2.1 sCom).1 = some r' ∧ r = ((Fo.one { (wordM l b ⟨33, i, 0, e0, 0⟩ i).1 with til := t.2.1 } t.1).app r'.1, r'.2)) := by
  cases f with
  | zero => rw [tyM] at h; cases h
  | succ f =>
    rw [tyM, if_pos hc] at h
    obtain ⟨t, h1, h2⟩ := Option.bind_eq_some_iff.1 h
    refine ⟨f, t, rfl, h1, fun hh => ?_, fun hh => ?_⟩
    · rw [if_pos hh] at h2; injection h2 with h2; exact h2.symm
    · rw [if_neg hh] at h2
      obtain ⟨r', h3, h4⟩ := Option.map_eq_some_iff.1 h2
      exact ⟨r', h3, h4.symm⟩
theorem fnL_end {l : List Tok} {f : Nat} {first : Bool} {b : Int} {i : Nat} {r : Fo × Nat × Int} (h : tyM l f (.fnL first) b i = some r) (hc : ¬ (b < 0 ∧ ¬ (first = true ∧ isM l i sParS = true))) : r = (.nil, i, b) := by
  cases f with
  | zero => rw [tyM] at h; cases h
  | succ f => rw [tyM, if_neg hc] at h; injection h with h; exact h.symm
theorem fnL_go {l : List Tok} {f : Nat} {first : Bool} {b : Int} {i : Nat} {r : Fo × Nat × Int} (h : tyM l f (.fnL first) b i = some r) (hc : b < 0 ∧ ¬ (first = true ∧ isM l i sParS = true)) :
    ∃ f' t, f = f' + 1 ∧ tyM l f' .kind b i = some t ∧
      ((0 ≤ t.2.2 ∨ isM l t.2.1 sParS = true) → r = (t.1, t.2.1, t.2.2)) ∧
      (¬ (0 ≤ t.2.2 ∨ isM l t.2.1 sParS = true) → ∃ r', tyM l f' (.fnL false) (wantM l t.2.2 t.2.1 sCom).2 (wantM l t.2.2 t.2.1 sCom).1 = some r' ∧ r = (t.1.app r'.1, r'.2)) := by
  cases f with
  | zero => rw [tyM] at h; cases h
  | succ f =>
    rw [tyM, if_pos hc] at h
    obtain ⟨t, h1, h2⟩ := Option.bind_eq_some_iff.1 h
    refine ⟨f, t, rfl, h1, fun hh => ?_, fun hh => ?_⟩
    · rw [if_pos hh] at h2; injection h2 with h2; exact h2.symm
    · rw [if_neg hh] at h2
      obtain ⟨r', h3, h4⟩ := Option.map_eq_some_iff.1 h2
      exact ⟨r', h3, h4.symm⟩
def KindOk (X : Cx) (f : Nat) : Prop := ∀ (b : Int) (i : Nat) (w : World) (r : Fo × Nat × Int), tyM X.l f .kind b i = some r → St X w b → i < X.l.length → Calls Try.prog 98 #[X.p, .int .i64 i] w fun e w' => NodeP X w r e w'
set_option maxHeartbeats 8000000 in
set_option maxRecDepth 100000 in
theorem kind_any (X : Cx) : ∀ f, f ≤ 1000000 → KindOk X f := by
  intro f
  induction f using Nat.strongRecOn with
  | _ f IH =>
  intro hf b i w r hr hS hi
  cases f with
  | zero => rw [tyM] at hr; cases hr
  | succ f =>
  have hrb := hS.row.lt
  have hle := hS.wf.le
  have WF := Lib.hid hS.wf
  have rr := hS.row.cell
  have L0 := Lib.hid ((LS.start hS).alloc w.heap.size rfl 25 zc)
  have rl := L0.out.st.row.cell
  by_cases hb : 0 ≤ b
  · have hb2 : b ≥ 0 := hb
    rw [tyM, if_pos hb] at hr
    injection hr with hr
    subst hr
    clear hS hb IH
    go_enter Try.func98, Try.ntmps98
    go_wp2
    refine bodyPost_ret ?_ rfl ⟨⟨0, 0, 0, e0, 0⟩, .nil, none, 0, rfl, rfl, KV.nil _ _ _ _, L0.out.st, L0.out.fr, hi⟩
    simp [results, Try.results98, go_sem, e0, Fo.len]
  · have hb1 : ¬ b ≥ 0 := by omega
    have hb2 : b < 0 := by omega
    have HR := Lib.hid hr
    have L1 := Lib.hid (L0.out.alloc (w.heap.size + 1) (by simp) 9 #[.string ⟨#[105, 110, 116]⟩, .string ⟨#[115, 116, 114]⟩, .string ⟨#[100, 121, 110]⟩])
    have IS := Lib.hid (fun (x : ByteArray) w' h => is_any X b i x w' h hi)
    clear hS hb hr
    go_enter Try.func98, Try.ntmps98
    go_wp2_with fail
    go_loopg [8] 3 (fun kx v wr => ∃ k : Nat, v = .int .i64 k ∧ k ≤ 3 ∧ 3 - k ≤ kx ∧ Hid (∀ j, j < k → isM X.l i (plainB j).data.toList = false) ∧ Hid (LS X w wr b [(w.heap.size + 1, 9, #[.string ⟨#[105, 110, 116]⟩, .string ⟨#[115, 116, 114]⟩, .string ⟨#[100, 121, 110]⟩]), (w.heap.size, 25, zc)] [] (.slice none 0 0) .nil))
    case atStart => exact ⟨0, rfl, by omega, by omega, fun j h => by omega, L1.out⟩
    case round =>
      obtain ⟨k, rfl, hk, hkx, HN, LL⟩ := hrel
      by_cases hlt : k < 3
      · have C := IS.out (plainB k) wr LL.out.st
        have r9 := (LL.out.row 0 rfl).cell k
        have hcell : wr.cell? ⟨w.heap.size + 1, k, none⟩ = some (.string (plainB k)) := by
          rw [r9]
          rcases (by omega : k = 0 ∨ k = 1 ∨ k = 2) with rfl | rfl | rfl <;> rfl
        have hki : (k : Int) < 3 := by omega
        cases hz : isM X.l i (plainB k).data.toList
        · rw [hz] at C
          have HN2 : Hid (∀ j, j < k + 1 → isM X.l i (plainB j).data.toList = false) := fun j hj => by
            by_cases e : j = k
            · rw [e]; exact hz
            · exact HN.out j (by omega)
          have CC := Lib.hid C
          clear C hz r9
          go_wp2_with fail
          refine CC.out.mono ?_
          rintro e w1 ⟨rfl, hb1'⟩
          have L2 := Lib.hid (LL.out.other hb1')
          clear hb1'
          go_wp2_with fail
          go_roundg (3 - (k + 1))
          case measure => omega
          case rel => exact ⟨k + 1, by go_num, by omega, by omega, HN2, L2.out⟩
        · rw [hz] at C
          have hres := ty_plain (f := f) hb2 HN.out hlt hz
          rw [HR.out] at hres
          injection hres with hres
          subst hres
          have hnx := isM_next WF.out hz
          have CC := Lib.hid C
          have e1 : IntKind.i64.wrap ((i : Int) + 1) = ((i + 1 : Nat) : Int) := by rw [IntKind.wrap_i64]; omega
          have e2 : IntKind.i64.wrap (29 + (k : Int)) = ((29 + k : Nat) : Int) := by rw [IntKind.wrap_i64]; omega
          clear C hz r9
          go_wp2_with fail
          refine CC.out.mono ?_
          rintro e w1 ⟨rfl, hb1'⟩
          have L2 := Lib.hid ((LL.out.other hb1').put6 1 rfl rfl (.int .i64 (29 + k : Nat)) (.int .i64 i) (.int .i64 (i + 1 : Nat)) (.string ⟨#[]⟩) (.int .i64 0) (.slice none 0 0))
          have r2 := ((LL.out.other hb1').row 1 rfl).cell
          have t2 := ((LL.out.other hb1').row 1 rfl).thaw
          have r3 := (L2.out.row 1 rfl).cell
          clear hb1'
          go_wp2
          refine bodyPost_ret ?_ rfl ⟨⟨29 + k, i, i + 1, e0, 0⟩, .nil, none, 0, rfl, rfl, KV.nil _ _ _ _, L2.out.st, L2.out.fr, hnx⟩
          simp [results, Try.results98, go_sem, e0, Fo.len, r2]
      · obtain rfl : k = 3 := by omega
        have L3 := LL
        cases hz : isM X.l i sOpen
        · obtain ⟨⟨p1, q1⟩, hy1⟩ : ∃ y, y = wantM X.l b i kFn := ⟨_, rfl⟩
          obtain ⟨⟨p2, q2⟩, hy2⟩ : ∃ y, y = wantM X.l q1 p1 sParO := ⟨_, rfl⟩
          have hr' := HR.out
          rw [ty_fn hb2 HN.out hz, ← hy1] at hr'
          dsimp only at hr'
          rw [← hy2] at hr'
          dsimp only at hr'
          obtain ⟨⟨xf, xi, xb⟩, hx, hr2⟩ := Option.bind_eq_some_iff.1 hr'
          obtain ⟨⟨p3, q3⟩, hy3⟩ : ∃ y, y = wantM X.l xb xi sParS := ⟨_, rfl⟩
          obtain ⟨⟨p4, q4⟩, hy4⟩ : ∃ y, y = wantM X.l q3 p3 sCol := ⟨_, rfl⟩
          dsimp only at hr2
          rw [← hy3] at hr2
          dsimp only at hr2
          rw [← hy4] at hr2
          dsimp only at hr2
          obtain ⟨⟨tf, ti, tb⟩, ht, hr3⟩ := Option.bind_eq_some_iff.1 hr2
          dsimp only at hr3
          injection hr3 with hr3
          subst hr3
          have C := IS.out ⟨#[123]⟩ wr LL.out.st
          rw [show isM X.l i (⟨#[123]⟩ : ByteArray).data.toList = false from hz] at C
          have CC := Lib.hid C
          have HX := Lib.hid hx
          have W1 : Hid (∀ w', St X w' b → Calls Try.prog 83 #[X.p, .int .i64 i, .string ⟨#[102, 110]⟩] w' fun e w'' => AtP X w' (p1, q1) e w'') := fun w' h => by rw [hy1]; exact want_any X b i ⟨#[102, 110]⟩ w' h hi
          have W2 : Hid (p1 < X.l.length → ∀ w', St X w' q1 → Calls Try.prog 83 #[X.p, .int .i64 p1, .string ⟨#[40]⟩] w' fun e w'' => AtP X w' (p2, q2) e w'') := fun hl w' h => by rw [hy2]; exact want_any X q1 p1 ⟨#[40]⟩ w' h hl
          have W3 : Hid (∀ w', St X w' xb → xi < X.l.length → Calls Try.prog 83 #[X.p, .int .i64 xi, .string ⟨#[41]⟩] w' fun e w'' => AtP X w' (p3, q3) e w'') := fun w' h hl => by rw [hy3]; exact want_any X xb xi ⟨#[41]⟩ w' h hl
          have W4 : Hid (p3 < X.l.length → ∀ w', St X w' q3 → Calls Try.prog 83 #[X.p, .int .i64 p3, .string ⟨#[58]⟩] w' fun e w'' => AtP X w' (p4, q4) e w'') := fun hl w' h => by rw [hy4]; exact want_any X q3 p3 ⟨#[58]⟩ w' h hl
          have KT : Hid (p4 < X.l.length → ∀ w', St X w' q4 → Calls Try.prog 98 #[X.p, .int .i64 p4] w' fun e w'' => NodeP X w' (tf, ti, tb) e w'') := fun hl w' h => IH f (by omega) (by omega) q4 p4 w' _ ht h hl
          have hnl : ¬ (3 : Int) < 3 := by omega
          clear C hx hy1 hy2 hy3 hy4 hr' hr2 hz HR ht
          go_wp2_with fail
          refine CC.out.mono ?_
          rintro e w1 ⟨rfl, hbl⟩
          have L4 := Lib.hid (LL.out.other hbl)
          clear hbl CC
          go_wp2_with fail
          refine (W1.out _ L4.out.st).mono ?_
          rintro e w2 ⟨rfl, hS2, hF2, hl2⟩
          have L5 := Lib.hid (L4.out.step hS2 hF2)
          clear hS2 hF2 W1
          go_wp2_with fail
          refine (W2.out hl2 _ L5.out.st).mono ?_
          rintro e w3 ⟨rfl, hS3, hF3, hl3⟩
          have L6 := Lib.hid (L5.out.step hS3 hF3)
          clear hS3 hF3 W2
          go_wp2_with fail
          go_loopg [6, 9] (f + 1) (fun kx s6 s9 wr => ∃ (fk ik : Nat) (bk : Int) (Kk : Fo) (rk : Fo × Nat × Int) (u : Value), u = s9 ∧ s6 = .int .i64 ik ∧ fk ≤ kx ∧ Kk.len + fk ≤ f ∧ ik < X.l.length ∧ Hid (tyM X.l fk (.fnL (decide (Kk.len = 0))) bk ik = some rk) ∧ Hid (xf = Kk.app rk.1 ∧ xi = rk.2.1 ∧ xb = rk.2.2) ∧ Hid (LS X w wr bk [(w.heap.size + 1, 9, #[.string ⟨#[105, 110, 116]⟩, .string ⟨#[115, 116, 114]⟩, .string ⟨#[100, 121, 110]⟩]), (w.heap.size, 25, zc)] [] s9 Kk))
          case atStart => exact ⟨f, p2, q2, .nil, (xf, xi, xb), _, rfl, by go_num, by omega, by simp [Fo.len], hl3, HX.out, ⟨rfl, rfl, rfl⟩, L6.out⟩
          case round =>
            obtain ⟨fk, ik, bk, Kk, rk, u, rfl, rfl, hkx, hfk, hik, HG, HE, LK⟩ := hrel
            obtain ⟨z, hz⟩ : ∃ z : Bool, (z = true ↔ (bk < 0 ∧ ¬ (decide (Kk.len = 0) = true ∧ isM X.l ik sParS = true))) := by
              by_cases h : bk < 0 ∧ ¬ (decide (Kk.len = 0) = true ∧ isM X.l ik sParS = true)
              · exact ⟨true, by simp only [h, not_false_eq_true, and_self]⟩
              · exact ⟨false, by simp only [Bool.false_eq_true, false_iff]; exact h⟩
            have HZ := Lib.hid hz
            have rk0 := LK.out.st.row.cell
            obtain ⟨AK, cK, eK, hcK, _⟩ := LK.out.list
            obtain rfl := eK
            have ISK := Lib.hid (fun (x : ByteArray) w' h => is_any X bk ik x w' h hik)
            clear hz
            go_upto_region 25 with fail
            go_cut [134] from 119 to 158 (fun s64 wx => s64 = .bool z ∧ Hid (LS X w wx bk [(w.heap.size + 1, 9, #[.string ⟨#[105, 110, 116]⟩, .string ⟨#[115, 116, 114]⟩, .string ⟨#[100, 121, 110]⟩]), (w.heap.size, 25, zc)] [] (.slice AK Kk.len cK) Kk))
            case first =>
              by_cases h1 : bk < 0
              · by_cases h2 : Kk.len = 0
                · have d2 : ((Kk.len : Int) == 0) = true := by rw [beq_iff_eq]; omega
                  have H2 := Lib.hid h2
                  clear h2
                  have C := ISK.out ⟨#[41]⟩ wr LK.out.st
                  cases hq : isM X.l ik sParS
                  · rw [show isM X.l ik (⟨#[41]⟩ : ByteArray).data.toList = false from hq] at C
                    have CC := Lib.hid C
                    obtain rfl : z = true := HZ.out.2 ⟨h1, by rw [hq]; simp⟩
                    clear C hq
                    go_wp2_with fail
                    refine CC.out.mono ?_
                    rintro e wq ⟨rfl, hbl⟩
                    have LQ := Lib.hid (LK.out.other hbl)
                    clear hbl
                    go_wp2_with fail
                    go_meet
                    exact ⟨rfl, LQ.out⟩
                  · rw [show isM X.l ik (⟨#[41]⟩ : ByteArray).data.toList = true from hq] at C
                    have CC := Lib.hid C
                    obtain rfl : z = false := by
                      cases z
                      · rfl
                      · exact absurd ⟨decide_eq_true H2.out, hq⟩ (HZ.out.1 rfl).2
                    clear C hq
                    go_wp2_with fail
                    refine CC.out.mono ?_
                    rintro e wq ⟨rfl, hbl⟩
                    have LQ := Lib.hid (LK.out.other hbl)
                    clear hbl
                    go_wp2_with fail
                    go_meet
                    exact ⟨rfl, LQ.out⟩
                · have d2 : ((Kk.len : Int) == 0) = false := by rw [beq_eq_false_iff_ne]; omega
                  obtain rfl : z = true := HZ.out.2 ⟨h1, fun hh => h2 (of_decide_eq_true hh.1)⟩
                  clear h2
                  go_wp2_with fail
                  go_meet
                  exact ⟨rfl, LK.out⟩
              · obtain rfl : z = false := by
                  cases z
                  · rfl
                  · exact absurd (HZ.out.1 rfl).1 h1
                go_wp2_with fail
                go_meet
                exact ⟨rfl, LK.out⟩
            case rest =>
            obtain ⟨rfl, LC⟩ := hcut
            clear LK rk0 ISK
            cases z
            · have hrk := fnL_end HG.out (fun hh => by have := HZ.out.2 hh; cases this)
              obtain ⟨h1, h2, h3⟩ := HE.out
              rw [hrk, Fo.app_nil] at h1
              rw [hrk] at h2 h3
              dsimp only at h1 h2 h3
              subst h1 h2 h3
              have hxl := hik
              clear HG HE HZ hrk
              go_wp2_with fail
              refine (W3.out _ LC.out.st hxl).mono ?_
              rintro e wa ⟨rfl, hSa, hFa, hla⟩
              have La := Lib.hid (LC.out.step hSa hFa)
              clear hSa hFa
              go_wp2_with fail
              refine (W4.out hla _ La.out.st).mono ?_
              rintro e wb ⟨rfl, hSb, hFb, hlb⟩
              have Lb := Lib.hid (La.out.step hSb hFb)
              clear hSb hFb
              go_wp2_with fail
              refine (KT.out hlb _ Lb.out.st).mono ?_
              rintro e wd ⟨hd, kd, Ad, cd, ed, rfl, hKd, hSd, hFd, hld⟩
              dsimp only at ed hSd hld
              subst ed
              obtain ⟨d1, d2, d3, d4, d5⟩ := hd
              have Lc := Lib.hid (((Lb.out.kid hSd hFd hKd).alloc wd.heap.size rfl 25 (nc ⟨d1, d2, d3, d4, d5⟩ Ad kd.len cd)).other (bel1 _ (.cells (nc ⟨d1, d2, d3, d4, d5⟩ Ad kd.len cd) 25)))
              have m1 := (Lc.out.row 0 rfl).cell
              clear hSd hFd hKd
              have CNx := Lib.hid (cells_nd (wd.alloc (.cells (nc ⟨d1, d2, d3, d4, d5⟩ Ad kd.len cd) 25)) (.int .i64 d1) (.int .i64 d2) (.int .i64 d3) (.string d4) (.int .i64 d5) (.slice Ad kd.len cd))
              obtain ⟨cs, o1, o2⟩ := Lc.out.own
              have O1 := Lib.hid o1
              have O2 := Lib.hid o2
              obtain ⟨i0, hi0, hz0, hz1, hz2⟩ := info_parts info25
              have b5 := Lib.hid Lc.out.size
              have b3' : xf.len + 1 ≤ maxLen := by unfold maxLen; omega
              have b4' : (xf.len + 1) * 72 ≤ 140737488355328 := by omega
              clear o1 o2
              go_wp2_with (at_builtin; refine wpList_append_at rfl (.tmp 174) (.tmp 176) 23 rfl w.heap.size 25 i0 (.agg #[.int .i64 0, .int .i64 0, .int .i64 0, .string ⟨#[]⟩, .int .i64 0, .slice none 0 0]) 6 72 Try.underlying23 hi0 hz0 hz1 hz2 rfl (by decide) _ xf.len cs rfl O1.out ⟨wd.heap.size + 1, 0, none⟩ 1 1 [.int .i64 d1, .int .i64 d2, .int .i64 d3, .string d4, .int .i64 d5, .slice Ad kd.len cd] rfl rfl (by simpa using CNx.out) (one_nd ⟨d1, d2, d3, d4, d5⟩ _ _ _) b3' b4' b5.out ?_)
              intro v'' we hown' hgrow hat
              have Ld := Lib.hid (Lc.out.push ⟨O1.out, O2.out⟩ (k := .one ⟨d1, d2, d3, d4, d5⟩ kd) (FC.one (Lc.out.kidP 0 rfl)) hown' hgrow (fun j hj => by
                rcases hat j hj with h | h
                · exact .inl h
                · exact .inr (by simpa using h)))
              obtain ⟨Kf, hKf⟩ : ∃ Kf, Kf = xf.app (.one ⟨d1, d2, d3, d4, d5⟩ kd) := ⟨_, rfl⟩
              rw [← hKf] at Ld
              have HKF := Lib.hid hKf
              clear hKf
              clear hown' hgrow hat b3' b4' b5 CNx O1 O2 m1
              obtain ⟨Ae, ce, ee, _, _⟩ := Ld.out.list
              subst ee
              go_wp2_with fail
              refine (ended_any ⟨34, i, 0, e0, 0⟩ none 0 0 ti Ae Kf.len ce _).mono ?_
              rintro e wf ⟨rfl, hbf⟩
              have Le := Lib.hid ((Ld.out.other hbf).put6 2 rfl rfl (.int .i64 34) (.int .i64 i) (.int .i64 ti) (.string e0) (.int .i64 0) (.slice Ae Kf.len ce))
              have r7 := ((Ld.out.other hbf).row 2 rfl).cell
              have t7 := ((Ld.out.other hbf).row 2 rfl).thaw
              clear hbf
              go_wp2
              refine bodyPost_ret ?_ rfl ⟨⟨34, i, ti, e0, 0⟩, Kf, Ae, ce, by rw [HKF.out], rfl, ?_, Le.out.st, Le.out.fr, hld⟩
              · simp [results, Try.results98, go_sem, e0, r7]
              · exact Le.out.kv
            · obtain ⟨hbk, hfirst⟩ := HZ.out.1 rfl
              obtain ⟨f', t, hf', hty, hstop, hmore⟩ := fnL_go HG.out ⟨hbk, hfirst⟩
              obtain ⟨tf', a3, b3⟩ := t
              dsimp only at hty hstop hmore
              obtain ⟨⟨a4, b4⟩, h4⟩ : ∃ r, r = wantM X.l b3 a3 sCom := ⟨_, rfl⟩
              rw [← h4] at hmore
              dsimp only at hmore
              have C3 : Hid (∀ w', St X w' bk → Calls Try.prog 98 #[X.p, .int .i64 ik] w' fun e w'' => NodeP X w' (tf', a3, b3) e w'') := fun w' h => IH f' (by omega) (by omega) bk ik w' _ hty h hik
              have C4 : Hid (a3 < X.l.length → ∀ w', St X w' b3 → Calls Try.prog 83 #[X.p, .int .i64 a3, .string ⟨#[44]⟩] w' fun e w'' => AtP X w' (a4, b4) e w'') := fun hl w' h => by rw [h4]; exact want_any X b3 a3 ⟨#[44]⟩ w' h hl
              have C5 : Hid (a3 < X.l.length → ∀ w', St X w' b3 → Calls Try.prog 53 #[X.p, .int .i64 a3, .string ⟨#[41]⟩] w' fun e w'' => e = .returned (.bool (isM X.l a3 sParS)) ∧ Below w'.heap.size w' w'') := fun hl w' h => is_any X b3 a3 ⟨#[41]⟩ w' h hl
              have HSTOP := Lib.hid hstop
              have HMORE := Lib.hid hmore
              have HF' := Lib.hid hf'
              clear h4 hty hstop hmore HG HZ hfirst hf' hbk
              go_wp2_with fail
              refine (C3.out _ LC.out.st).mono ?_
              rintro e w5 ⟨h5, k5, A5, c5, e5, rfl, hK5, hS5, hF5, hl5⟩
              dsimp only at e5 hS5 hl5
              subst e5
              obtain ⟨hk1, hk2, hk3, hk4, hk5⟩ := h5
              have M6 := Lib.hid (((LC.out.kid hS5 hF5 hK5).alloc w5.heap.size rfl 25 (nc ⟨hk1, hk2, hk3, hk4, hk5⟩ A5 k5.len c5)).other (bel1 _ (.cells (nc ⟨hk1, hk2, hk3, hk4, hk5⟩ A5 k5.len c5) 25)))
              have m1 := (M6.out.row 0 rfl).cell
              clear hS5 hF5 hK5
              obtain ⟨cs, o1, o2⟩ := M6.out.own
              have O1 := Lib.hid o1
              have O2 := Lib.hid o2
              obtain ⟨i0, hi0, hz0, hz1, hz2⟩ := info_parts info25
              have b5 := Lib.hid M6.out.size
              have b3' : Kk.len + 1 ≤ maxLen := by unfold maxLen; omega
              have b4' : (Kk.len + 1) * 72 ≤ 140737488355328 := by omega
              have CN := Lib.hid (cells_nd (w5.alloc (.cells (nc ⟨hk1, hk2, hk3, hk4, hk5⟩ A5 k5.len c5) 25)) (.int .i64 hk1) (.int .i64 hk2) (.int .i64 hk3) (.string hk4) (.int .i64 hk5) (.slice A5 k5.len c5))
              clear o1 o2
              go_wp2_with (at_builtin; refine wpList_append_at rfl (.tmp 142) (.tmp 144) 23 rfl w.heap.size 25 i0 (.agg #[.int .i64 0, .int .i64 0, .int .i64 0, .string ⟨#[]⟩, .int .i64 0, .slice none 0 0]) 6 72 Try.underlying23 hi0 hz0 hz1 hz2 rfl (by decide) _ Kk.len cs rfl O1.out ⟨w5.heap.size + 1, 0, none⟩ 1 1 [.int .i64 hk1, .int .i64 hk2, .int .i64 hk3, .string hk4, .int .i64 hk5, .slice A5 k5.len c5] rfl rfl (by simpa using CN.out) (one_nd ⟨hk1, hk2, hk3, hk4, hk5⟩ _ _ _) b3' b4' b5.out ?_)
              intro v' w7 hown' hgrow hat
              have M7 := Lib.hid (M6.out.push ⟨O1.out, O2.out⟩ (k := .one ⟨hk1, hk2, hk3, hk4, hk5⟩ k5) (FC.one (M6.out.kidP 0 rfl)) hown' hgrow (fun j hj => by
                rcases hat j hj with h | h
                · exact .inl h
                · exact .inr (by simpa using h)))
              clear hown' hgrow hat b3' b4' b5 CN O1 O2
              have M7 := Lib.hid M7.out.drop.noK
              have hKl : (Kk.app (.one ⟨hk1, hk2, hk3, hk4, hk5⟩ k5)).len = Kk.len + 1 := by rw [Fo.len_app]; rfl
              have HKL := Lib.hid hKl
              have n7 := M7.out.st.row.cell
              clear hKl m1
              by_cases hb3 : 0 ≤ b3
              · have hrk := HSTOP.out (.inl hb3)
                obtain ⟨h1, h2, h3⟩ := HE.out
                rw [hrk] at h1 h2 h3
                dsimp only at h1 h2 h3
                have hKL2 : xf.len ≤ 1000001 := by
                  have := HKL.out
                  rw [← h1] at this
                  omega
                subst h2 h3
                obtain ⟨A7, c7, e7, hc7, hk7⟩ := M7.out.list
                rw [← h1] at e7 M7
                subst e7
                have hxl := hl5
                have hb3' : xb ≥ 0 := hb3
                clear HE HSTOP HMORE hrk h1 HKL
                go_wp2_with fail
                refine (W3.out _ M7.out.st hxl).mono ?_
                rintro e wa ⟨rfl, hSa, hFa, hla⟩
                have La := Lib.hid (M7.out.step hSa hFa)
                clear hSa hFa
                go_wp2_with fail
                refine (W4.out hla _ La.out.st).mono ?_
                rintro e wb ⟨rfl, hSb, hFb, hlb⟩
                have Lb := Lib.hid (La.out.step hSb hFb)
                clear hSb hFb
                go_wp2_with fail
                refine (KT.out hlb _ Lb.out.st).mono ?_
                rintro e wd ⟨hd, kd, Ad, cd, ed, rfl, hKd, hSd, hFd, hld⟩
                dsimp only at ed hSd hld
                subst ed
                obtain ⟨d1, d2, d3, d4, d5⟩ := hd
                have Lc := Lib.hid (((Lb.out.kid hSd hFd hKd).alloc wd.heap.size rfl 25 (nc ⟨d1, d2, d3, d4, d5⟩ Ad kd.len cd)).other (bel1 _ (.cells (nc ⟨d1, d2, d3, d4, d5⟩ Ad kd.len cd) 25)))
                have m1 := (Lc.out.row 0 rfl).cell
                clear hSd hFd hKd
                have CNx := Lib.hid (cells_nd (wd.alloc (.cells (nc ⟨d1, d2, d3, d4, d5⟩ Ad kd.len cd) 25)) (.int .i64 d1) (.int .i64 d2) (.int .i64 d3) (.string d4) (.int .i64 d5) (.slice Ad kd.len cd))
                obtain ⟨cs, o1, o2⟩ := Lc.out.own
                have O1 := Lib.hid o1
                have O2 := Lib.hid o2
                obtain ⟨i0, hi0, hz0, hz1, hz2⟩ := info_parts info25
                have b5 := Lib.hid Lc.out.size
                have b3' : xf.len + 1 ≤ maxLen := by unfold maxLen; omega
                have b4' : (xf.len + 1) * 72 ≤ 140737488355328 := by omega
                clear o1 o2
                go_wp2_with (at_builtin; refine wpList_append_at rfl (.tmp 174) (.tmp 176) 23 rfl w.heap.size 25 i0 (.agg #[.int .i64 0, .int .i64 0, .int .i64 0, .string ⟨#[]⟩, .int .i64 0, .slice none 0 0]) 6 72 Try.underlying23 hi0 hz0 hz1 hz2 rfl (by decide) _ xf.len cs rfl O1.out ⟨wd.heap.size + 1, 0, none⟩ 1 1 [.int .i64 d1, .int .i64 d2, .int .i64 d3, .string d4, .int .i64 d5, .slice Ad kd.len cd] rfl rfl (by simpa using CNx.out) (one_nd ⟨d1, d2, d3, d4, d5⟩ _ _ _) b3' b4' b5.out ?_)
                intro v'' we hown' hgrow hat
                have Ld := Lib.hid (Lc.out.push ⟨O1.out, O2.out⟩ (k := .one ⟨d1, d2, d3, d4, d5⟩ kd) (FC.one (Lc.out.kidP 0 rfl)) hown' hgrow (fun j hj => by
                  rcases hat j hj with h | h
                  · exact .inl h
                  · exact .inr (by simpa using h)))
                obtain ⟨Kf, hKf⟩ : ∃ Kf, Kf = xf.app (.one ⟨d1, d2, d3, d4, d5⟩ kd) := ⟨_, rfl⟩
                rw [← hKf] at Ld
                have HKF := Lib.hid hKf
                clear hKf
                clear hown' hgrow hat b3' b4' b5 CNx O1 O2 m1
                obtain ⟨Ae, ce, ee, _, _⟩ := Ld.out.list
                subst ee
                go_wp2_with fail
                refine (ended_any ⟨34, i, 0, e0, 0⟩ none 0 0 ti Ae Kf.len ce _).mono ?_
                rintro e wf ⟨rfl, hbf⟩
                have Le := Lib.hid ((Ld.out.other hbf).put6 2 rfl rfl (.int .i64 34) (.int .i64 i) (.int .i64 ti) (.string e0) (.int .i64 0) (.slice Ae Kf.len ce))
                have r7 := ((Ld.out.other hbf).row 2 rfl).cell
                have t7 := ((Ld.out.other hbf).row 2 rfl).thaw
                clear hbf
                go_wp2
                refine bodyPost_ret ?_ rfl ⟨⟨34, i, ti, e0, 0⟩, Kf, Ae, ce, by rw [HKF.out], rfl, ?_, Le.out.st, Le.out.fr, hld⟩
                · simp [results, Try.results98, go_sem, e0, r7]
                · exact Le.out.kv
              · have hb3' : ¬ b3 ≥ 0 := by omega
                have c5' := C5.out hl5 w7 M7.out.st
                cases hq : isM X.l a3 sParS
                · obtain ⟨r', hG', hrk⟩ := HMORE.out (fun hh => by rcases hh with hh | hh; exact hb3 hh; rw [hq] at hh; cases hh)
                  rw [hq] at c5'
                  have CC := Lib.hid c5'
                  obtain ⟨h1, h2, h3⟩ := HE.out
                  rw [hrk] at h1 h2 h3
                  dsimp only at h1 h2 h3
                  have HE2 := Lib.hid (show xf = (Kk.app (.one ⟨hk1, hk2, hk3, hk4, hk5⟩ k5)).app r'.1 ∧ xi = r'.2.1 ∧ xb = r'.2.2 from ⟨by rw [h1, Fo.app_assoc], h2, h3⟩)
                  have HG2 : Hid (tyM X.l f' (.fnL (decide ((Kk.app (.one ⟨hk1, hk2, hk3, hk4, hk5⟩ k5)).len = 0))) b4 a4 = some r') := by
                    unfold Hid; rw [HKL.out, show decide (Kk.len + 1 = 0) = false by simp]; exact hG'
                  clear HE HSTOP HMORE hrk h1 h2 h3 hG' hq c5' hb3
                  go_wp2_with fail
                  refine CC.out.mono ?_
                  rintro e w8 ⟨rfl, hb8⟩
                  have M8 := Lib.hid (M7.out.other hb8)
                  clear hb8 n7
                  go_wp2_with fail
                  refine (C4.out hl5 _ M8.out.st).mono ?_
                  rintro e w9 ⟨rfl, hS9, hF9, hl9⟩
                  have M9 := Lib.hid (M8.out.step hS9 hF9)
                  have hf'' := HF'.out
                  have hkl := HKL.out
                  clear hS9 hF9 HKL
                  go_wp2_with fail
                  go_roundg f'
                  case measure => omega
                  case rel => exact ⟨f', a4, b4, _, r', _, rfl, by go_num, by omega, by omega, hl9, HG2.out, HE2.out, M9.out⟩
                · have hrk := HSTOP.out (.inr hq)
                  rw [hq] at c5'
                  have CC := Lib.hid c5'
                  obtain ⟨h1, h2, h3⟩ := HE.out
                  rw [hrk] at h1 h2 h3
                  dsimp only at h1 h2 h3
                  have hKL2 : xf.len ≤ 1000001 := by
                    have := HKL.out
                    rw [← h1] at this
                    omega
                  subst h2 h3
                  obtain ⟨A7, c7, e7, hc7, hk7⟩ := M7.out.list
                  rw [← h1] at e7 M7
                  subst e7
                  have hxl := hl5
                  clear HE HSTOP HMORE hrk h1 hq c5' hb3 HKL
                  go_wp2_with fail
                  refine CC.out.mono ?_
                  rintro e w8 ⟨rfl, hb8⟩
                  have M8 := Lib.hid (M7.out.other hb8)
                  clear hb8 n7
                  go_wp2_with fail
                  refine (W3.out _ M8.out.st hxl).mono ?_
                  rintro e wa ⟨rfl, hSa, hFa, hla⟩
                  have La := Lib.hid (M8.out.step hSa hFa)
                  clear hSa hFa
                  go_wp2_with fail
                  refine (W4.out hla _ La.out.st).mono ?_
                  rintro e wb ⟨rfl, hSb, hFb, hlb⟩
                  have Lb := Lib.hid (La.out.step hSb hFb)
                  clear hSb hFb
                  go_wp2_with fail
                  refine (KT.out hlb _ Lb.out.st).mono ?_
                  rintro e wd ⟨hd, kd, Ad, cd, ed, rfl, hKd, hSd, hFd, hld⟩
                  dsimp only at ed hSd hld
                  subst ed
                  obtain ⟨d1, d2, d3, d4, d5⟩ := hd
                  have Lc := Lib.hid (((Lb.out.kid hSd hFd hKd).alloc wd.heap.size rfl 25 (nc ⟨d1, d2, d3, d4, d5⟩ Ad kd.len cd)).other (bel1 _ (.cells (nc ⟨d1, d2, d3, d4, d5⟩ Ad kd.len cd) 25)))
                  have m1 := (Lc.out.row 0 rfl).cell
                  clear hSd hFd hKd
                  have CNx := Lib.hid (cells_nd (wd.alloc (.cells (nc ⟨d1, d2, d3, d4, d5⟩ Ad kd.len cd) 25)) (.int .i64 d1) (.int .i64 d2) (.int .i64 d3) (.string d4) (.int .i64 d5) (.slice Ad kd.len cd))
                  obtain ⟨cs, o1, o2⟩ := Lc.out.own
                  have O1 := Lib.hid o1
                  have O2 := Lib.hid o2
                  obtain ⟨i0, hi0, hz0, hz1, hz2⟩ := info_parts info25
                  have b5 := Lib.hid Lc.out.size
                  have b3' : xf.len + 1 ≤ maxLen := by unfold maxLen; omega
                  have b4' : (xf.len + 1) * 72 ≤ 140737488355328 := by omega
                  clear o1 o2
                  go_wp2_with (at_builtin; refine wpList_append_at rfl (.tmp 174) (.tmp 176) 23 rfl w.heap.size 25 i0 (.agg #[.int .i64 0, .int .i64 0, .int .i64 0, .string ⟨#[]⟩, .int .i64 0, .slice none 0 0]) 6 72 Try.underlying23 hi0 hz0 hz1 hz2 rfl (by decide) _ xf.len cs rfl O1.out ⟨wd.heap.size + 1, 0, none⟩ 1 1 [.int .i64 d1, .int .i64 d2, .int .i64 d3, .string d4, .int .i64 d5, .slice Ad kd.len cd] rfl rfl (by simpa using CNx.out) (one_nd ⟨d1, d2, d3, d4, d5⟩ _ _ _) b3' b4' b5.out ?_)
                  intro v'' we hown' hgrow hat
                  have Ld := Lib.hid (Lc.out.push ⟨O1.out, O2.out⟩ (k := .one ⟨d1, d2, d3, d4, d5⟩ kd) (FC.one (Lc.out.kidP 0 rfl)) hown' hgrow (fun j hj => by
                    rcases hat j hj with h | h
                    · exact .inl h
                    · exact .inr (by simpa using h)))
                  obtain ⟨Kf, hKf⟩ : ∃ Kf, Kf = xf.app (.one ⟨d1, d2, d3, d4, d5⟩ kd) := ⟨_, rfl⟩
                  rw [← hKf] at Ld
                  have HKF := Lib.hid hKf
                  clear hKf
                  clear hown' hgrow hat b3' b4' b5 CNx O1 O2 m1
                  obtain ⟨Ae, ce, ee, _, _⟩ := Ld.out.list
                  subst ee
                  go_wp2_with fail
                  refine (ended_any ⟨34, i, 0, e0, 0⟩ none 0 0 ti Ae Kf.len ce _).mono ?_
                  rintro e wf ⟨rfl, hbf⟩
                  have Le := Lib.hid ((Ld.out.other hbf).put6 2 rfl rfl (.int .i64 34) (.int .i64 i) (.int .i64 ti) (.string e0) (.int .i64 0) (.slice Ae Kf.len ce))
                  have r7 := ((Ld.out.other hbf).row 2 rfl).cell
                  have t7 := ((Ld.out.other hbf).row 2 rfl).thaw
                  clear hbf
                  go_wp2
                  refine bodyPost_ret ?_ rfl ⟨⟨34, i, ti, e0, 0⟩, Kf, Ae, ce, by rw [HKF.out], rfl, ?_, Le.out.st, Le.out.fr, hld⟩
                  · simp [results, Try.results98, go_sem, e0, r7]
                  · exact Le.out.kv
        · have hnx := isM_next WF.out hz
          have hr' := HR.out
          rw [ty_open hb2 HN.out hz] at hr'
          obtain ⟨⟨xf, xi, xb⟩, hx, hr2⟩ := Option.bind_eq_some_iff.1 hr'
          dsimp only at hr2
          injection hr2 with hr2
          obtain ⟨⟨yi, yb⟩, hy⟩ : ∃ y, y = wantM X.l xb xi sShut := ⟨_, rfl⟩
          rw [← hy] at hr2
          dsimp only at hr2
          subst hr2
          have C := IS.out ⟨#[123]⟩ wr LL.out.st
          rw [show isM X.l i (⟨#[123]⟩ : ByteArray).data.toList = true from hz] at C
          have CC := Lib.hid C
          have HX := Lib.hid hx
          have e1 : IntKind.i64.wrap ((i : Int) + 1) = ((i + 1 : Nat) : Int) := by rw [IntKind.wrap_i64]; omega
          have WT := Lib.hid (fun w' (h : St X w' xb) (hl : xi < X.l.length) => want_any X xb xi ⟨#[125]⟩ w' h hl)
          rw [show wantM X.l xb xi (⟨#[125]⟩ : ByteArray).data.toList = (yi, yb) from hy.symm] at WT
          have hnl : ¬ (3 : Int) < 3 := by omega
          clear C hx hy hr' hz HR
          go_wp2_with fail
          refine CC.out.mono ?_
          rintro e w1 ⟨rfl, hbl⟩
          have L4 := Lib.hid (LL.out.other hbl)
          clear hbl CC
          go_wp2_with fail
          go_loopg [6, 9] (f + 1) (fun kx s6 s9 wr => ∃ (fk ik : Nat) (bk : Int) (Kk : Fo) (rk : Fo × Nat × Int) (u : Value), u = s9 ∧ s6 = .int .i64 ik ∧ fk ≤ kx ∧ Kk.len + fk ≤ f ∧ ik < X.l.length ∧ Hid (tyM X.l fk (.recL (decide (Kk.len = 0))) bk ik = some rk) ∧ Hid (xf = Kk.app rk.1 ∧ xi = rk.2.1 ∧ xb = rk.2.2) ∧ Hid (LS X w wr bk [(w.heap.size + 1, 9, #[.string ⟨#[105, 110, 116]⟩, .string ⟨#[115, 116, 114]⟩, .string ⟨#[100, 121, 110]⟩]), (w.heap.size, 25, zc)] [] s9 Kk))
          case atStart => exact ⟨f, i + 1, b, .nil, (xf, xi, xb), _, rfl, by go_num, by omega, by simp [Fo.len], hnx, HX.out, ⟨rfl, rfl, rfl⟩, L4.out⟩
          case round =>
            obtain ⟨fk, ik, bk, Kk, rk, u, rfl, rfl, hkx, hfk, hik, HG, HE, LK⟩ := hrel
            obtain ⟨z, hz⟩ : ∃ z : Bool, (z = true ↔ (bk < 0 ∧ ¬ (decide (Kk.len = 0) = true ∧ isM X.l ik sShut = true))) := by
              by_cases h : bk < 0 ∧ ¬ (decide (Kk.len = 0) = true ∧ isM X.l ik sShut = true)
              · exact ⟨true, by simp only [h, not_false_eq_true, and_self]⟩
              · exact ⟨false, by simp only [Bool.false_eq_true, false_iff]; exact h⟩
            have HZ := Lib.hid hz
            have rk0 := LK.out.st.row.cell
            obtain ⟨AK, cK, eK, hcK, _⟩ := LK.out.list
            obtain rfl := eK
            have ISK := Lib.hid (fun (x : ByteArray) w' h => is_any X bk ik x w' h hik)
            clear hz
            go_upto_region 13 with fail
            go_cut [64] from 49 to 103 (fun s64 wx => s64 = .bool z ∧ Hid (LS X w wx bk [(w.heap.size + 1, 9, #[.string ⟨#[105, 110, 116]⟩, .string ⟨#[115, 116, 114]⟩, .string ⟨#[100, 121, 110]⟩]), (w.heap.size, 25, zc)] [] (.slice AK Kk.len cK) Kk))
            case first =>
              by_cases h1 : bk < 0
              · by_cases h2 : Kk.len = 0
                · have d2 : ((Kk.len : Int) == 0) = true := by rw [beq_iff_eq]; omega
                  have H2 := Lib.hid h2
                  clear h2
                  have C := ISK.out ⟨#[125]⟩ wr LK.out.st
                  cases hq : isM X.l ik sShut
                  · rw [show isM X.l ik (⟨#[125]⟩ : ByteArray).data.toList = false from hq] at C
                    have CC := Lib.hid C
                    obtain rfl : z = true := HZ.out.2 ⟨h1, by rw [hq]; simp⟩
                    clear C hq
                    go_wp2_with fail
                    refine CC.out.mono ?_
                    rintro e wq ⟨rfl, hbl⟩
                    have LQ := Lib.hid (LK.out.other hbl)
                    clear hbl
                    go_wp2_with fail
                    go_meet
                    exact ⟨rfl, LQ.out⟩
                  · rw [show isM X.l ik (⟨#[125]⟩ : ByteArray).data.toList = true from hq] at C
                    have CC := Lib.hid C
                    obtain rfl : z = false := by
                      cases z
                      · rfl
                      · exact absurd ⟨decide_eq_true H2.out, hq⟩ (HZ.out.1 rfl).2
                    clear C hq
                    go_wp2_with fail
                    refine CC.out.mono ?_
                    rintro e wq ⟨rfl, hbl⟩
                    have LQ := Lib.hid (LK.out.other hbl)
                    clear hbl
                    go_wp2_with fail
                    go_meet
                    exact ⟨rfl, LQ.out⟩
                · have d2 : ((Kk.len : Int) == 0) = false := by rw [beq_eq_false_iff_ne]; omega
                  obtain rfl : z = true := HZ.out.2 ⟨h1, fun hh => h2 (of_decide_eq_true hh.1)⟩
                  clear h2
                  go_wp2_with fail
                  go_meet
                  exact ⟨rfl, LK.out⟩
              · obtain rfl : z = false := by
                  cases z
                  · rfl
                  · exact absurd (HZ.out.1 rfl).1 h1
                go_wp2_with fail
                go_meet
                exact ⟨rfl, LK.out⟩
            case rest =>
            obtain ⟨rfl, LC⟩ := hcut
            clear LK rk0 ISK
            cases z
            · have hrk := recL_end HG.out (fun hh => by have := HZ.out.2 hh; cases this)
              obtain ⟨h1, h2, h3⟩ := HE.out
              rw [hrk, Fo.app_nil] at h1
              rw [hrk] at h2 h3
              dsimp only at h1 h2 h3
              subst h1 h2 h3
              have hxl := hik
              clear HG HE HZ hrk
              go_wp2_with fail
              refine (WT.out _ LC.out.st hxl).mono ?_
              rintro e wa ⟨rfl, hSa, hFa, hla⟩
              have La := Lib.hid (LC.out.step hSa hFa)
              clear hSa hFa
              go_wp2_with fail
              refine (ended_any ⟨32, i, 0, e0, 0⟩ none 0 0 yi AK xf.len cK _).mono ?_
              rintro e wb ⟨rfl, hbb⟩
              have Lb := Lib.hid ((La.out.other hbb).put6 1 rfl rfl (.int .i64 32) (.int .i64 i) (.int .i64 yi) (.string e0) (.int .i64 0) (.slice AK xf.len cK))
              have r7 := ((La.out.other hbb).row 1 rfl).cell
              have t7 := ((La.out.other hbb).row 1 rfl).thaw
              clear hbb
              go_wp2
              refine bodyPost_ret ?_ rfl ⟨⟨32, i, yi, e0, 0⟩, xf, AK, cK, rfl, rfl, ?_, Lb.out.st, Lb.out.fr, hla⟩
              · simp [results, Try.results98, go_sem, e0, r7]
              · exact Lb.out.kv
            · obtain ⟨hbk, hfirst⟩ := HZ.out.1 rfl
              obtain ⟨f', t, hf', hty, hstop, hmore⟩ := recL_go HG.out ⟨hbk, hfirst⟩
              obtain ⟨⟨⟨k1, f1, t1, wd1, q1⟩, a1, b1⟩, h1⟩ : ∃ r, r = wordM X.l bk ⟨33, ik, 0, e0, 0⟩ ik := ⟨_, rfl⟩
              rw [← h1] at hty hstop hmore
              dsimp only at hty hstop hmore
              obtain ⟨⟨a2, b2⟩, h2⟩ : ∃ r, r = wantM X.l b1 a1 sCol := ⟨_, rfl⟩
              rw [← h2] at hty
              obtain ⟨tf, a3, b3⟩ := t
              dsimp only at hty hstop hmore
              obtain ⟨⟨a4, b4⟩, h4⟩ : ∃ r, r = wantM X.l b3 a3 sCom := ⟨_, rfl⟩
              rw [← h4] at hmore
              dsimp only at hmore
              have C1 : Hid (∀ w', St X w' bk → Calls Try.prog 82 #[X.p, nv ⟨33, ik, 0, e0, 0⟩ none 0 0, .int .i64 ik] w' fun e w'' => WordP X w' (⟨k1, f1, t1, wd1, q1⟩, a1, b1) none 0 0 e w'') := fun w' h => by rw [h1]; exact word_any X bk _ none 0 0 ik w' h hik
              have C2 : Hid (a1 < X.l.length → ∀ w', St X w' b1 → Calls Try.prog 83 #[X.p, .int .i64 a1, .string ⟨#[58]⟩] w' fun e w'' => AtP X w' (a2, b2) e w'') := fun hl w' h => by rw [h2]; exact want_any X b1 a1 ⟨#[58]⟩ w' h hl
              have C3 : Hid (a2 < X.l.length → ∀ w', St X w' b2 → Calls Try.prog 98 #[X.p, .int .i64 a2] w' fun e w'' => NodeP X w' (tf, a3, b3) e w'') := fun hl w' h => IH f' (by omega) (by omega) b2 a2 w' _ hty h hl
              have C4 : Hid (a3 < X.l.length → ∀ w', St X w' b3 → Calls Try.prog 83 #[X.p, .int .i64 a3, .string ⟨#[44]⟩] w' fun e w'' => AtP X w' (a4, b4) e w'') := fun hl w' h => by rw [h4]; exact want_any X b3 a3 ⟨#[44]⟩ w' h hl
              have C5 : Hid (a3 < X.l.length → ∀ w', St X w' b3 → Calls Try.prog 53 #[X.p, .int .i64 a3, .string ⟨#[125]⟩] w' fun e w'' => e = .returned (.bool (isM X.l a3 sShut)) ∧ Below w'.heap.size w' w'') := fun hl w' h => is_any X b3 a3 ⟨#[125]⟩ w' h hl
              have HSTOP := Lib.hid hstop
              have HMORE := Lib.hid hmore
              have HF' := Lib.hid hf'
              clear h1 h2 h4 hty hstop hmore HG HZ hfirst hf' hbk
              go_wp2_with fail
              refine (C1.out _ LC.out.st).mono ?_
              rintro e w3 ⟨rfl, hS3, hF3, hl3⟩
              have M1 := Lib.hid ((LC.out.step hS3 hF3).alloc w3.heap.size rfl 25 (nc ⟨k1, f1, t1, wd1, q1⟩ none 0 0))
              clear hS3 hF3
              go_wp2_with fail
              refine (C2.out hl3 _ M1.out.st).mono ?_
              rintro e w4 ⟨rfl, hS4, hF4, hl4⟩
              have M2 := Lib.hid (M1.out.step hS4 hF4)
              clear hS4 hF4
              go_wp2_with fail
              refine (C3.out hl4 _ M2.out.st).mono ?_
              rintro e w5 ⟨h5, k5, A5, c5, e5, rfl, hK5, hS5, hF5, hl5⟩
              dsimp only at e5 hS5 hl5
              subst e5
              obtain ⟨hk1, hk2, hk3, hk4, hk5⟩ := h5
              have M3 := Lib.hid ((M2.out.kid hS5 hF5 hK5).alloc w5.heap.size rfl 25 (nc ⟨hk1, hk2, hk3, hk4, hk5⟩ A5 k5.len c5))
              have m1 := (M3.out.row 0 rfl).cell
              have m2 := (M3.out.row 1 rfl).cell
              clear hS5 hF5 hK5
              go_wp2_with fail
              have M4 := Lib.hid (M3.out.slice (w5.heap.size + 1) (by simp) (k := .one ⟨hk1, hk2, hk3, hk4, hk5⟩ k5) (cs := nc ⟨hk1, hk2, hk3, hk4, hk5⟩ A5 k5.len c5) (FC.one (M3.out.kidP 0 rfl)))
              refine (ended_any ⟨k1, f1, t1, wd1, q1⟩ none 0 0 a3 (some ⟨w5.heap.size + 1, 0, none⟩) 1 1 _).mono ?_
              rintro e w6 ⟨rfl, hb6⟩
              have M6 := Lib.hid ((M4.out.other hb6).other (bel1 w6 (.cells (nc ⟨k1, f1, a3, wd1, q1⟩ (some ⟨w5.heap.size + 1, 0, none⟩) 1 1) 25)))
              obtain ⟨cs, o1, o2⟩ := M6.out.own
              have O1 := Lib.hid o1
              have O2 := Lib.hid o2
              obtain ⟨i0, hi0, hz0, hz1, hz2⟩ := info_parts info25
              have b5 := Lib.hid M6.out.size
              have b3' : Kk.len + 1 ≤ maxLen := by unfold maxLen; omega
              have b4' : (Kk.len + 1) * 72 ≤ 140737488355328 := by omega
              have CN := Lib.hid (cells_nd w6 (.int .i64 k1) (.int .i64 f1) (.int .i64 a3) (.string wd1) (.int .i64 q1) (.slice (some ⟨w5.heap.size + 1, 0, none⟩) 1 1))
              clear hb6 o1 o2 m1 m2
              go_wp2_with (at_builtin; refine wpList_append_at rfl (.tmp 83) (.tmp 89) 23 rfl w.heap.size 25 i0 (.agg #[.int .i64 0, .int .i64 0, .int .i64 0, .string ⟨#[]⟩, .int .i64 0, .slice none 0 0]) 6 72 Try.underlying23 hi0 hz0 hz1 hz2 rfl (by decide) _ Kk.len cs rfl O1.out ⟨w6.heap.size, 0, none⟩ 1 1 [.int .i64 k1, .int .i64 f1, .int .i64 a3, .string wd1, .int .i64 q1, .slice (some ⟨w5.heap.size + 1, 0, none⟩) 1 1] rfl rfl CN.out (one_nd ⟨k1, f1, a3, wd1, q1⟩ _ _ _) b3' b4' b5.out ?_)
              intro v' w7 hown' hgrow hat
              have M7 := Lib.hid (M6.out.push ⟨O1.out, O2.out⟩ (k := .one ⟨k1, f1, a3, wd1, q1⟩ (.one ⟨hk1, hk2, hk3, hk4, hk5⟩ k5)) (FC.one (M6.out.kidP 0 rfl)) hown' hgrow (fun j hj => by
                rcases hat j hj with h | h
                · exact .inl h
                · exact .inr (by simpa using h))).drop.drop.noK
              have hKl : (Kk.app (.one ⟨k1, f1, a3, wd1, q1⟩ (.one ⟨hk1, hk2, hk3, hk4, hk5⟩ k5))).len = Kk.len + 1 := by rw [Fo.len_app]; rfl
              have HKL := Lib.hid hKl
              have n7 := M7.out.st.row.cell
              clear hown' hgrow hat b3' b4' b5 CN O1 O2 hKl
              by_cases hb3 : 0 ≤ b3
              · have hrk := HSTOP.out (.inl hb3)
                obtain ⟨h1, h2, h3⟩ := HE.out
                rw [hrk] at h1 h2 h3
                dsimp only at h1 h2 h3
                subst h2 h3
                obtain ⟨A7, c7, e7, hc7, hk7⟩ := M7.out.list
                rw [← h1] at e7 M7
                subst e7
                have hxl := hl5
                have hb3' : xb ≥ 0 := hb3
                clear HE HSTOP HMORE hrk h1
                go_wp2_with fail
                refine (WT.out _ M7.out.st hxl).mono ?_
                rintro e wa ⟨rfl, hSa, hFa, hla⟩
                have La := Lib.hid (M7.out.step hSa hFa)
                clear hSa hFa
                go_wp2_with fail
                refine (ended_any ⟨32, i, 0, e0, 0⟩ none 0 0 yi A7 xf.len c7 _).mono ?_
                rintro e wb ⟨rfl, hbb⟩
                have Lb := Lib.hid ((La.out.other hbb).put6 1 rfl rfl (.int .i64 32) (.int .i64 i) (.int .i64 yi) (.string e0) (.int .i64 0) (.slice A7 xf.len c7))
                have r7 := ((La.out.other hbb).row 1 rfl).cell
                have t7 := ((La.out.other hbb).row 1 rfl).thaw
                clear hbb
                go_wp2
                refine bodyPost_ret ?_ rfl ⟨⟨32, i, yi, e0, 0⟩, xf, A7, c7, rfl, rfl, ?_, Lb.out.st, Lb.out.fr, hla⟩
                · simp [results, Try.results98, go_sem, e0, r7]
                · exact Lb.out.kv
              · have hb3' : ¬ b3 ≥ 0 := by omega
                have c5' := C5.out hl5 w7 M7.out.st
                cases hq : isM X.l a3 sShut
                · obtain ⟨r', hG', hrk⟩ := HMORE.out (fun hh => by rcases hh with hh | hh; exact hb3 hh; rw [hq] at hh; cases hh)
                  rw [hq] at c5'
                  have CC := Lib.hid c5'
                  obtain ⟨h1, h2, h3⟩ := HE.out
                  rw [hrk] at h1 h2 h3
                  dsimp only at h1 h2 h3
                  have HE2 := Lib.hid (show xf = (Kk.app (.one ⟨k1, f1, a3, wd1, q1⟩ (.one ⟨hk1, hk2, hk3, hk4, hk5⟩ k5))).app r'.1 ∧ xi = r'.2.1 ∧ xb = r'.2.2 from ⟨by rw [h1, Fo.app_assoc], h2, h3⟩)
                  have HG2 : Hid (tyM X.l f' (.recL (decide ((Kk.app (.one ⟨k1, f1, a3, wd1, q1⟩ (.one ⟨hk1, hk2, hk3, hk4, hk5⟩ k5))).len = 0))) b4 a4 = some r') := by
                    unfold Hid; rw [HKL.out, show decide (Kk.len + 1 = 0) = false by simp]; exact hG'
                  clear HE HSTOP HMORE hrk h1 h2 h3 hG' hq c5' hb3
                  go_wp2_with fail
                  refine CC.out.mono ?_
                  rintro e w8 ⟨rfl, hb8⟩
                  have M8 := Lib.hid (M7.out.other hb8)
                  clear hb8 n7
                  go_wp2_with fail
                  refine (C4.out hl5 _ M8.out.st).mono ?_
                  rintro e w9 ⟨rfl, hS9, hF9, hl9⟩
                  have M9 := Lib.hid (M8.out.step hS9 hF9)
                  have hf'' := HF'.out
                  have hkl := HKL.out
                  clear hS9 hF9 HKL
                  go_wp2_with fail
                  go_roundg f'
                  case measure => omega
                  case rel => exact ⟨f', a4, b4, _, r', _, rfl, by go_num, by omega, by omega, hl9, HG2.out, HE2.out, M9.out⟩
                · have hrk := HSTOP.out (.inr hq)
                  rw [hq] at c5'
                  have CC := Lib.hid c5'
                  obtain ⟨h1, h2, h3⟩ := HE.out
                  rw [hrk] at h1 h2 h3
                  dsimp only at h1 h2 h3
                  subst h2 h3
                  obtain ⟨A7, c7, e7, hc7, hk7⟩ := M7.out.list
                  rw [← h1] at e7 M7
                  subst e7
                  have hxl := hl5
                  clear HE HSTOP HMORE hrk h1 hq c5' hb3
                  go_wp2_with fail
                  refine CC.out.mono ?_
                  rintro e w8 ⟨rfl, hb8⟩
                  have M8 := Lib.hid (M7.out.other hb8)
                  clear hb8 n7
                  go_wp2_with fail
                  refine (WT.out _ M8.out.st hxl).mono ?_
                  rintro e wa ⟨rfl, hSa, hFa, hla⟩
                  have La := Lib.hid (M8.out.step hSa hFa)
                  clear hSa hFa
                  go_wp2_with fail
                  refine (ended_any ⟨32, i, 0, e0, 0⟩ none 0 0 yi A7 xf.len c7 _).mono ?_
                  rintro e wb ⟨rfl, hbb⟩
                  have Lb := Lib.hid ((La.out.other hbb).put6 1 rfl rfl (.int .i64 32) (.int .i64 i) (.int .i64 yi) (.string e0) (.int .i64 0) (.slice A7 xf.len c7))
                  have r7 := ((La.out.other hbb).row 1 rfl).cell
                  have t7 := ((La.out.other hbb).row 1 rfl).thaw
                  clear hbb
                  go_wp2
                  refine bodyPost_ret ?_ rfl ⟨⟨32, i, yi, e0, 0⟩, xf, A7, c7, rfl, rfl, ?_, Lb.out.st, Lb.out.fr, hla⟩
                  · simp [results, Try.results98, go_sem, e0, r7]
                  · exact Lb.out.kv
end Ps
end Go.Proofs.Ytnefnnoleeeedaa
namespace Go.Proofs.Ytnefnnoleeeedaa
open Go.RowKit
namespace Ps
set_option maxHeartbeats 4000000 in
set_option maxRecDepth 100000 in
theorem typed_any (X : Cx) (f : Nat) (hf : f ≤ 1000000) (b : Int) (i : Nat) (w : World) (r : Fo × Nat × Int) (hr : typedM X.l f b i = some r) (hS : St X w b) (hi : i < X.l.length) :
    Calls Try.prog 94 #[X.p, .int .i64 i] w fun e w' => NodeP X w r e w' := by
  have L0 := Lib.hid ((LS.start hS).alloc w.heap.size rfl 25 zc)
  have rl := L0.out.st.row.cell
  have hle := hS.wf.le
  have rr := hS.row.cell
  have hrb := hS.row.lt
  unfold typedM at hr
  by_cases hb : 0 ≤ b
  · have hb2 : b ≥ 0 := hb
    rw [if_pos (.inl hb)] at hr
    injection hr with hr
    subst hr
    clear hS hb
    go_enter Try.func94, Try.ntmps94
    go_wp2
    refine bodyPost_ret ?_ rfl ⟨⟨0, 0, 0, e0, 0⟩, .nil, none, 0, rfl, rfl, KV.nil _ _ _ _, L0.out.st, L0.out.fr, hi⟩
    simp [results, Try.results94, go_sem, e0, Fo.len]
  · have hb2 : ¬ b ≥ 0 := by omega
    have c := is_any X b i ⟨#[58]⟩ _ L0.out.st hi
    cases hz : isM X.l i sCol
    · rw [if_pos (.inr (by rw [hz]; simp))] at hr
      injection hr with hr
      subst hr
      rw [show isM X.l i (⟨#[58]⟩ : ByteArray).data.toList = false from hz] at c
      have C := Lib.hid c
      clear hS hb c hz
      go_enter Try.func94, Try.ntmps94
      go_wp2_with fail
      refine C.out.mono ?_
      rintro e w1 ⟨rfl, hb1⟩
      have L1 := Lib.hid ((L0.out.other hb1).put6 0 rfl rfl (.int .i64 0) (.int .i64 0) (.int .i64 0) (.string e0) (.int .i64 0) (.slice none 0 0))
      have r7 := ((L0.out.other hb1).row 0 rfl).cell
      have t7 := ((L0.out.other hb1).row 0 rfl).thaw
      clear hb1 rl rr
      go_wp2
      refine bodyPost_ret ?_ rfl ⟨⟨0, 0, 0, e0, 0⟩, .nil, none, 0, rfl, rfl, KV.nil _ _ _ _, L1.out.st, L1.out.fr, hi⟩
      simp [results, Try.results94, go_sem, e0, Fo.len, r7]
    · have hnx := isM_next hS.wf hz
      rw [if_neg (by rintro (h | h); exact hb h; exact h hz)] at hr
      rw [show isM X.l i (⟨#[58]⟩ : ByteArray).data.toList = true from hz] at c
      have C := Lib.hid c
      obtain ⟨j, hj⟩ : ∃ j, j = i + 1 := ⟨_, rfl⟩
      rw [← hj] at hr hnx
      have e1 : IntKind.i64.wrap ((i : Int) + 1) = (j : Int) := by rw [IntKind.wrap_i64]; omega
      have KT : Hid (∀ w', St X w' b → Calls Try.prog 98 #[X.p, .int .i64 j] w' fun e w'' => NodeP X w' r e w'') := fun w' h => kind_any X f hf b j w' r hr h hnx
      clear hS hb c hz hr hj
      go_enter Try.func94, Try.ntmps94
      go_wp2_with fail
      refine C.out.mono ?_
      rintro e w1 ⟨rfl, hb1⟩
      have L1 := Lib.hid (L0.out.other hb1)
      clear hb1 rl rr
      go_wp2_with fail
      refine (KT.out _ L1.out.st).mono ?_
      rintro e w5 ⟨h5, k5, A5, c5, e5, rfl, hK5, hS5, hF5, hl5⟩
      obtain ⟨hk1, hk2, hk3, hk4, hk5⟩ := h5
      have L2 := Lib.hid ((L1.out.kid hS5 hF5 hK5).put6 0 rfl rfl (.int .i64 hk1) (.int .i64 hk2) (.int .i64 hk3) (.string hk4) (.int .i64 hk5) (.slice A5 k5.len c5))
      have r7 := ((L1.out.kid hS5 hF5 hK5).row 0 rfl).cell
      have t7 := ((L1.out.kid hS5 hF5 hK5).row 0 rfl).thaw
      clear hS5 hF5 hK5
      go_wp2
      refine bodyPost_ret ?_ rfl ⟨⟨hk1, hk2, hk3, hk4, hk5⟩, k5, A5, c5, e5, rfl, ?_, L2.out.st, L2.out.fr, hl5⟩
      · simp [results, Try.results94, go_sem, r7]
      · exact (L2.out.kidP 0 rfl).new_ (fun g h => h.1)
theorem parL_end {l : List Tok} {f : Nat} {first : Bool} {b : Int} {i : Nat} {r : Fo × Nat × Int} (h : parL l f first b i = some r) (hc : ¬ (b < 0 ∧ ¬ (first = true ∧ isM l i sParS = true))) : r = (.nil, i, b) := by
  cases f with
  | zero => rw [parL] at h; cases h
  | succ f => rw [parL, if_neg hc] at h; injection h with h; exact h.symm
theorem parL_go {l : List Tok} {f : Nat} {first : Bool} {b : Int} {i : Nat} {r : Fo × Nat × Int} (h : parL l f first b i = some r) (hc : b < 0 ∧ ¬ (first = true ∧ isM l i sParS = true)) :
    ∃ f' t, f = f' + 1 ∧ typedM l f' (wordM l b ⟨5, i, 0, e0, 0⟩ i).2.2 (wordM l b ⟨5, i, 0, e0, 0⟩ i).2.1 = some t ∧
      ((0 ≤ t.2.2 ∨ isM l t.2.1 sParS = true) → r = (.one { (wordM l b ⟨5, i, 0, e0, 0⟩ i).1 with til := t.2.1 } t.1, t.2.1, t.2.2)) ∧
      (¬ (0 ≤ t.2.2 ∨ isM l t.2.1 sParS = true) → ∃ r', parL l f' false (wantM l t.2.2 t.2.1 sCom).2 (wantM l t.2.2 t.2.1 sCom).1 = some r' ∧ r = ((Fo.one { (wordM l b ⟨5, i, 0, e0, 0⟩ i).1 with til := t.2.1 } t.1).app r'.1, r'.2)) := by
  cases f with
  | zero => rw [parL] at h; cases h
  | succ f =>
    rw [parL, if_pos hc] at h
    obtain ⟨t, h1, h2⟩ := Option.bind_eq_some_iff.1 h
    refine ⟨f, t, rfl, h1, fun hh => ?_, fun hh => ?_⟩
    · rw [if_pos hh] at h2; injection h2 with h2; exact h2.symm
    · rw [if_neg hh] at h2
      obtain ⟨r', h3, h4⟩ := Option.map_eq_some_iff.1 h2
      exact ⟨r', h3, h4.symm⟩
set_option maxHeartbeats 8000000 in
set_option maxRecDepth 100000 in
theorem params_any (X : Cx) (f : Nat) (hf : f ≤ 1000000) (b : Int) (i : Nat) (w : World) (r : Fo × Nat × Int) (hr : paramsM X.l f b i = some r) (hS : St X w b) (hi : i < X.l.length) :
    Calls Try.prog 93 #[X.p, .int .i64 i] w fun e w' => NodeP X w r e w' := by
  have L0 := Lib.hid ((LS.start hS).alloc w.heap.size rfl 25 zc)
  have hle := hS.wf.le
  have hrb := hS.row.lt
  unfold paramsM at hr
  obtain ⟨⟨p1, q1⟩, hy1⟩ : ∃ y, y = wantM X.l b i sParO := ⟨_, rfl⟩
  rw [← hy1] at hr
  obtain ⟨⟨xf, xi, xb⟩, hx, hr2⟩ := Option.bind_eq_some_iff.1 hr
  obtain ⟨⟨yi, yb⟩, hy⟩ : ∃ y, y = wantM X.l xb xi sParS := ⟨_, rfl⟩
  dsimp only at hr2 hx
  rw [← hy] at hr2
  dsimp only at hr2
  injection hr2 with hr2
  subst hr2
  have HX := Lib.hid hx
  have W1 : Hid (∀ w', St X w' b → Calls Try.prog 83 #[X.p, .int .i64 i, .string ⟨#[40]⟩] w' fun e w'' => AtP X w' (p1, q1) e w'') := fun w' h => by rw [hy1]; exact want_any X b i ⟨#[40]⟩ w' h hi
  have WT : Hid (∀ w', St X w' xb → xi < X.l.length → Calls Try.prog 83 #[X.p, .int .i64 xi, .string ⟨#[41]⟩] w' fun e w'' => AtP X w' (yi, yb) e w'') := fun w' h hl => by rw [hy]; exact want_any X xb xi ⟨#[41]⟩ w' h hl
  clear hS hx hr hy hy1
  go_enter Try.func93, Try.ntmps93
  go_wp2_with fail
  refine (W1.out _ L0.out.st).mono ?_
  rintro e w1 ⟨rfl, hS1, hF1, hl1⟩
  have L1 := Lib.hid (L0.out.step hS1 hF1)
  clear hS1 hF1
  go_wp2_with fail
  go_loopg [6, 7] (f + 1) (fun kx s6 s9 wr => ∃ (fk ik : Nat) (bk : Int) (Kk : Fo) (rk : Fo × Nat × Int) (u : Value), u = s9 ∧ s6 = .int .i64 ik ∧ fk ≤ kx ∧ Kk.len + fk ≤ f ∧ ik < X.l.length ∧ Hid (parL X.l fk (decide (Kk.len = 0)) bk ik = some rk) ∧ Hid (xf = Kk.app rk.1 ∧ xi = rk.2.1 ∧ xb = rk.2.2) ∧ Hid (LS X w wr bk [(w.heap.size, 25, zc)] [] s9 Kk))
  case atStart => exact ⟨f, p1, q1, .nil, (xf, xi, xb), _, rfl, by go_num, by omega, by simp [Fo.len], hl1, HX.out, ⟨rfl, rfl, rfl⟩, L1.out⟩
  case round =>
    obtain ⟨fk, ik, bk, Kk, rk, u, rfl, rfl, hkx, hfk, hik, HG, HE, LK⟩ := hrel
    obtain ⟨z, hz⟩ : ∃ z : Bool, (z = true ↔ (bk < 0 ∧ ¬ (decide (Kk.len = 0) = true ∧ isM X.l ik sParS = true))) := by
      by_cases h : bk < 0 ∧ ¬ (decide (Kk.len = 0) = true ∧ isM X.l ik sParS = true)
      · exact ⟨true, by simp only [h, not_false_eq_true, and_self]⟩
      · exact ⟨false, by simp only [Bool.false_eq_true, false_iff]; exact h⟩
    have HZ := Lib.hid hz
    have rk0 := LK.out.st.row.cell
    obtain ⟨AK, cK, eK, hcK, _⟩ := LK.out.list
    obtain rfl := eK
    have ISK := Lib.hid (fun (x : ByteArray) w' h => is_any X bk ik x w' h hik)
    clear hz
    go_upto_region 3 with fail
    go_cut [29] from 14 to 65 (fun s64 wx => s64 = .bool z ∧ Hid (LS X w wx bk [(w.heap.size, 25, zc)] [] (.slice AK Kk.len cK) Kk))
    case first =>
      by_cases h1 : bk < 0
      · by_cases h2 : Kk.len = 0
        · have d2 : ((Kk.len : Int) == 0) = true := by rw [beq_iff_eq]; omega
          have H2 := Lib.hid h2
          clear h2
          have C := ISK.out ⟨#[41]⟩ wr LK.out.st
          cases hq : isM X.l ik sParS
          · rw [show isM X.l ik (⟨#[41]⟩ : ByteArray).data.toList = false from hq] at C
            have CC := Lib.hid C
            obtain rfl : z = true := HZ.out.2 ⟨h1, by rw [hq]; simp⟩
            clear C hq
            go_wp2_with fail
            refine CC.out.mono ?_
            rintro e wq ⟨rfl, hbl⟩
            have LQ := Lib.hid (LK.out.other hbl)
            clear hbl
            go_wp2_with fail
            go_meet
            exact ⟨rfl, LQ.out⟩
          · rw [show isM X.l ik (⟨#[41]⟩ : ByteArray).data.toList = true from hq] at C
            have CC := Lib.hid C
            obtain rfl : z = false := by
              cases z
              · rfl
              · exact absurd ⟨decide_eq_true H2.out, hq⟩ (HZ.out.1 rfl).2
            clear C hq
            go_wp2_with fail
            refine CC.out.mono ?_
            rintro e wq ⟨rfl, hbl⟩
            have LQ := Lib.hid (LK.out.other hbl)
            clear hbl
            go_wp2_with fail
            go_meet
            exact ⟨rfl, LQ.out⟩
        · have d2 : ((Kk.len : Int) == 0) = false := by rw [beq_eq_false_iff_ne]; omega
          obtain rfl : z = true := HZ.out.2 ⟨h1, fun hh => h2 (of_decide_eq_true hh.1)⟩
          clear h2
          go_wp2_with fail
          go_meet
          exact ⟨rfl, LK.out⟩
      · obtain rfl : z = false := by
          cases z
          · rfl
          · exact absurd (HZ.out.1 rfl).1 h1
        go_wp2_with fail
        go_meet
        exact ⟨rfl, LK.out⟩
    case rest =>
    obtain ⟨rfl, LC⟩ := hcut
    clear LK rk0 ISK
    cases z
    · have hrk := parL_end HG.out (fun hh => by have := HZ.out.2 hh; cases this)
      obtain ⟨h1, h2, h3⟩ := HE.out
      rw [hrk, Fo.app_nil] at h1
      rw [hrk] at h2 h3
      dsimp only at h1 h2 h3
      subst h1 h2 h3
      have hxl := hik
      clear HG HE HZ hrk
      go_wp2_with fail
      refine (WT.out _ LC.out.st hxl).mono ?_
      rintro e wa ⟨rfl, hSa, hFa, hla⟩
      have La := Lib.hid (LC.out.step hSa hFa)
      clear hSa hFa
      go_wp2_with fail
      refine (ended_any ⟨4, i, 0, e0, 0⟩ none 0 0 yi AK xf.len cK _).mono ?_
      rintro e wb ⟨rfl, hbb⟩
      have Lb := Lib.hid ((La.out.other hbb).put6 0 rfl rfl (.int .i64 4) (.int .i64 i) (.int .i64 yi) (.string e0) (.int .i64 0) (.slice AK xf.len cK))
      have r7 := ((La.out.other hbb).row 0 rfl).cell
      have t7 := ((La.out.other hbb).row 0 rfl).thaw
      clear hbb
      go_wp2
      refine bodyPost_ret ?_ rfl ⟨⟨4, i, yi, e0, 0⟩, xf, AK, cK, rfl, rfl, ?_, Lb.out.st, Lb.out.fr, hla⟩
      · simp [results, Try.results93, go_sem, e0, r7]
      · exact Lb.out.kv
    · obtain ⟨hbk, hfirst⟩ := HZ.out.1 rfl
      obtain ⟨f', t, hf', hty, hstop, hmore⟩ := parL_go HG.out ⟨hbk, hfirst⟩
      obtain ⟨⟨⟨k1, f1, t1, wd1, q1⟩, a1, b1⟩, h1⟩ : ∃ r, r = wordM X.l bk ⟨5, ik, 0, e0, 0⟩ ik := ⟨_, rfl⟩
      rw [← h1] at hty hstop hmore
      dsimp only at hty hstop hmore
      obtain ⟨tf, a3, b3⟩ := t
      dsimp only at hty hstop hmore
      obtain ⟨⟨a4, b4⟩, h4⟩ : ∃ r, r = wantM X.l b3 a3 sCom := ⟨_, rfl⟩
      rw [← h4] at hmore
      dsimp only at hmore
      have C1 : Hid (∀ w', St X w' bk → Calls Try.prog 82 #[X.p, nv ⟨5, ik, 0, e0, 0⟩ none 0 0, .int .i64 ik] w' fun e w'' => WordP X w' (⟨k1, f1, t1, wd1, q1⟩, a1, b1) none 0 0 e w'') := fun w' h => by rw [h1]; exact word_any X bk _ none 0 0 ik w' h hik
      have C3 : Hid (a1 < X.l.length → ∀ w', St X w' b1 → Calls Try.prog 94 #[X.p, .int .i64 a1] w' fun e w'' => NodeP X w' (tf, a3, b3) e w'') := fun hl w' h => typed_any X f' (by omega) b1 a1 w' _ hty h hl
      have C4 : Hid (a3 < X.l.length → ∀ w', St X w' b3 → Calls Try.prog 83 #[X.p, .int .i64 a3, .string ⟨#[44]⟩] w' fun e w'' => AtP X w' (a4, b4) e w'') := fun hl w' h => by rw [h4]; exact want_any X b3 a3 ⟨#[44]⟩ w' h hl
      have C5 : Hid (a3 < X.l.length → ∀ w', St X w' b3 → Calls Try.prog 53 #[X.p, .int .i64 a3, .string ⟨#[41]⟩] w' fun e w'' => e = .returned (.bool (isM X.l a3 sParS)) ∧ Below w'.heap.size w' w'') := fun hl w' h => is_any X b3 a3 ⟨#[41]⟩ w' h hl
      have HSTOP := Lib.hid hstop
      have HMORE := Lib.hid hmore
      have HF' := Lib.hid hf'
      clear h1 h4 hty hstop hmore HG HZ hfirst hf' hbk
      go_wp2_with fail
      refine (C1.out _ LC.out.st).mono ?_
      rintro e w3 ⟨rfl, hS3, hF3, hl3⟩
      have M1 := Lib.hid ((LC.out.step hS3 hF3).alloc w3.heap.size rfl 25 (nc ⟨k1, f1, t1, wd1, q1⟩ none 0 0))
      clear hS3 hF3
      go_wp2_with fail
      refine (C3.out hl3 _ M1.out.st).mono ?_
      rintro e w5 ⟨h5, k5, A5, c5, e5, rfl, hK5, hS5, hF5, hl5⟩
      dsimp only at e5 hS5 hl5
      subst e5
      obtain ⟨hk1, hk2, hk3, hk4, hk5⟩ := h5
      have M3 := Lib.hid ((M1.out.kid hS5 hF5 hK5).alloc w5.heap.size rfl 25 (nc ⟨hk1, hk2, hk3, hk4, hk5⟩ A5 k5.len c5))
      have m1 := (M3.out.row 0 rfl).cell
      have m2 := (M3.out.row 1 rfl).cell
      clear hS5 hF5 hK5
      go_wp2_with fail
      have M4 := Lib.hid (M3.out.slice (w5.heap.size + 1) (by simp) (k := .one ⟨hk1, hk2, hk3, hk4, hk5⟩ k5) (cs := nc ⟨hk1, hk2, hk3, hk4, hk5⟩ A5 k5.len c5) (FC.one (M3.out.kidP 0 rfl)))
      refine (ended_any ⟨k1, f1, t1, wd1, q1⟩ none 0 0 a3 (some ⟨w5.heap.size + 1, 0, none⟩) 1 1 _).mono ?_
      rintro e w6 ⟨rfl, hb6⟩
      have M6 := Lib.hid ((M4.out.other hb6).other (bel1 w6 (.cells (nc ⟨k1, f1, a3, wd1, q1⟩ (some ⟨w5.heap.size + 1, 0, none⟩) 1 1) 25)))
      clear hb6 m1 m2
      obtain ⟨cs, o1, o2⟩ := M6.out.own
      have O1 := Lib.hid o1
      have O2 := Lib.hid o2
      obtain ⟨i0, hi0, hz0, hz1, hz2⟩ := info_parts info25
      have b5 := Lib.hid M6.out.size
      have b3' : Kk.len + 1 ≤ maxLen := by unfold maxLen; omega
      have b4' : (Kk.len + 1) * 72 ≤ 140737488355328 := by omega
      have CN := Lib.hid (cells_nd w6 (.int .i64 k1) (.int .i64 f1) (.int .i64 a3) (.string wd1) (.int .i64 q1) (.slice (some ⟨w5.heap.size + 1, 0, none⟩) 1 1))
      clear o1 o2
      go_wp2_with (at_builtin; refine wpList_append_at rfl (.tmp 45) (.tmp 51) 23 rfl w.heap.size 25 i0 (.agg #[.int .i64 0, .int .i64 0, .int .i64 0, .string ⟨#[]⟩, .int .i64 0, .slice none 0 0]) 6 72 Try.underlying23 hi0 hz0 hz1 hz2 rfl (by decide) _ Kk.len cs rfl O1.out ⟨w6.heap.size, 0, none⟩ 1 1 [.int .i64 k1, .int .i64 f1, .int .i64 a3, .string wd1, .int .i64 q1, .slice (some ⟨w5.heap.size + 1, 0, none⟩) 1 1] rfl rfl CN.out (one_nd ⟨k1, f1, a3, wd1, q1⟩ _ _ _) b3' b4' b5.out ?_)
      intro v' w7 hown' hgrow hat
      have M7 := Lib.hid (M6.out.push ⟨O1.out, O2.out⟩ (k := .one ⟨k1, f1, a3, wd1, q1⟩ (.one ⟨hk1, hk2, hk3, hk4, hk5⟩ k5)) (FC.one (M6.out.kidP 0 rfl)) hown' hgrow (fun j hj => by
        rcases hat j hj with h | h
        · exact .inl h
        · exact .inr (by simpa using h)))
      clear hown' hgrow hat b3' b4' b5 CN O1 O2
      have M7 := Lib.hid M7.out.drop.drop.noK
      have hKl : (Kk.app (.one ⟨k1, f1, a3, wd1, q1⟩ (.one ⟨hk1, hk2, hk3, hk4, hk5⟩ k5))).len = Kk.len + 1 := by rw [Fo.len_app]; rfl
      have HKL := Lib.hid hKl
      have n7 := M7.out.st.row.cell
      clear hKl
      by_cases hb3 : 0 ≤ b3
      · have hrk := HSTOP.out (.inl hb3)
        obtain ⟨h1, h2, h3⟩ := HE.out
        rw [hrk] at h1 h2 h3
        dsimp only at h1 h2 h3
        have hKL2 : xf.len ≤ 1000001 := by
          have := HKL.out
          rw [← h1] at this
          omega
        subst h2 h3
        obtain ⟨A7, c7, e7, hc7, hk7⟩ := M7.out.list
        rw [← h1] at e7 M7
        subst e7
        have hxl := hl5
        have hb3' : xb ≥ 0 := hb3
        clear HE HSTOP HMORE hrk h1 HKL
        go_wp2_with fail
        refine (WT.out _ M7.out.st hxl).mono ?_
        rintro e wa ⟨rfl, hSa, hFa, hla⟩
        have La := Lib.hid (M7.out.step hSa hFa)
        clear hSa hFa
        go_wp2_with fail
        refine (ended_any ⟨4, i, 0, e0, 0⟩ none 0 0 yi A7 xf.len c7 _).mono ?_
        rintro e wb ⟨rfl, hbb⟩
        have Lb := Lib.hid ((La.out.other hbb).put6 0 rfl rfl (.int .i64 4) (.int .i64 i) (.int .i64 yi) (.string e0) (.int .i64 0) (.slice A7 xf.len c7))
        have r7 := ((La.out.other hbb).row 0 rfl).cell
        have t7 := ((La.out.other hbb).row 0 rfl).thaw
        clear hbb
        go_wp2
        refine bodyPost_ret ?_ rfl ⟨⟨4, i, yi, e0, 0⟩, xf, A7, c7, rfl, rfl, ?_, Lb.out.st, Lb.out.fr, hla⟩
        · simp [results, Try.results93, go_sem, e0, r7]
        · exact Lb.out.kv
      · have hb3' : ¬ b3 ≥ 0 := by omega
        have c5' := C5.out hl5 w7 M7.out.st
        cases hq : isM X.l a3 sParS
        · obtain ⟨r', hG', hrk⟩ := HMORE.out (fun hh => by rcases hh with hh | hh; exact hb3 hh; rw [hq] at hh; cases hh)
          rw [hq] at c5'
          have CC := Lib.hid c5'
          obtain ⟨h1, h2, h3⟩ := HE.out
          rw [hrk] at h1 h2 h3
          dsimp only at h1 h2 h3
          have HE2 := Lib.hid (show xf = (Kk.app (.one ⟨k1, f1, a3, wd1, q1⟩ (.one ⟨hk1, hk2, hk3, hk4, hk5⟩ k5))).app r'.1 ∧ xi = r'.2.1 ∧ xb = r'.2.2 from ⟨by rw [h1, Fo.app_assoc], h2, h3⟩)
          have HG2 : Hid (parL X.l f' (decide ((Kk.app (.one ⟨k1, f1, a3, wd1, q1⟩ (.one ⟨hk1, hk2, hk3, hk4, hk5⟩ k5))).len = 0)) b4 a4 = some r') := by
            unfold Hid; rw [HKL.out, show decide (Kk.len + 1 = 0) = false by simp]; exact hG'
          clear HE HSTOP HMORE hrk h1 h2 h3 hG' hq c5' hb3
          go_wp2_with fail
          refine CC.out.mono ?_
          rintro e w8 ⟨rfl, hb8⟩
          have M8 := Lib.hid (M7.out.other hb8)
          clear hb8 n7
          go_wp2_with fail
          refine (C4.out hl5 _ M8.out.st).mono ?_
          rintro e w9 ⟨rfl, hS9, hF9, hl9⟩
          have M9 := Lib.hid (M8.out.step hS9 hF9)
          have hf'' := HF'.out
          have hkl := HKL.out
          clear hS9 hF9 HKL
          go_wp2_with fail
          go_roundg f'
          case measure => omega
          case rel => exact ⟨f', a4, b4, _, r', _, rfl, by go_num, by omega, by omega, hl9, HG2.out, HE2.out, M9.out⟩
        · have hrk := HSTOP.out (.inr hq)
          rw [hq] at c5'
          have CC := Lib.hid c5'
          obtain ⟨h1, h2, h3⟩ := HE.out
          rw [hrk] at h1 h2 h3
          dsimp only at h1 h2 h3
          have hKL2 : xf.len ≤ 1000001 := by
            have := HKL.out
            rw [← h1] at this
            omega
          subst h2 h3
          obtain ⟨A7, c7, e7, hc7, hk7⟩ := M7.out.list
          rw [← h1] at e7 M7
          subst e7
          have hxl := hl5
          clear HE HSTOP HMORE hrk h1 hq c5' hb3 HKL
          go_wp2_with fail
          refine CC.out.mono ?_
          rintro e w8 ⟨rfl, hb8⟩
          have M8 := Lib.hid (M7.out.other hb8)
          clear hb8 n7
          go_wp2_with fail
          refine (WT.out _ M8.out.st hxl).mono ?_
          rintro e wa ⟨rfl, hSa, hFa, hla⟩
          have La := Lib.hid (M8.out.step hSa hFa)
          clear hSa hFa
          go_wp2_with fail
          refine (ended_any ⟨4, i, 0, e0, 0⟩ none 0 0 yi A7 xf.len c7 _).mono ?_
          rintro e wb ⟨rfl, hbb⟩
          have Lb := Lib.hid ((La.out.other hbb).put6 0 rfl rfl (.int .i64 4) (.int .i64 i) (.int .i64 yi) (.string e0) (.int .i64 0) (.slice A7 xf.len c7))
          have r7 := ((La.out.other hbb).row 0 rfl).cell
          have t7 := ((La.out.other hbb).row 0 rfl).thaw
          clear hbb
          go_wp2
          refine bodyPost_ret ?_ rfl ⟨⟨4, i, yi, e0, 0⟩, xf, A7, c7, rfl, rfl, ?_, Lb.out.st, Lb.out.fr, hla⟩
          · simp [results, Try.results93, go_sem, e0, r7]
          · exact Lb.out.kv
end Ps
end Go.Proofs.Ytnefnnoleeeedaa
namespace Go.Proofs.Ytnefnnoleeeedaa
open Go.RowKit
namespace Ps
def ExC (X : Cx) (f : Nat) (t : XT) (fn : Nat) : Prop := ∀ (b : Int) (i : Nat) (w : World) (r : Fo × Nat × Int), exM X.l f t b i = some r → St X w b → i < X.l.length → Calls Try.prog fn #[X.p, .int .i64 i] w fun e w' => NodeP X w r e w'
def NodesP (X : Cx) (w : World) (r : Fo × Nat × Int) (e : Ending) (w' : World) : Prop :=
  ∃ A cap, e = .returned (.tuple #[.slice A r.1.len cap, .int .i64 r.2.1]) ∧ KV w' (fun g => w.heap.size ≤ g) r.1 A cap ∧ St X w' r.2.2 ∧ Fr X.rb w.heap.size w w' ∧ r.2.1 < X.l.length
def LamC (X : Cx) (f : Nat) : Prop := ∀ (b : Int) (i : Nat) (w : World) (r : Fo × Nat × Int), exM X.l f .lambda b i = some r → St X w b → i < X.l.length → Calls Try.prog 84 #[X.p, .int .i64 i] w fun e w' => NodesP X w r e w'
theorem KV.slice3 {w : World} {P : Nat → Prop} {h1 h2 h3 : Hd} {k1 k2 k3 : Fo} {A1 A2 A3 : Option Addr} {c1 c2 c3 : Nat} (a : KV w P k1 A1 c1) (b : KV w P k2 A2 c2) (c : KV w P k3 A3 c3) :
    FC w P ((Fo.one h1 k1).app ((Fo.one h2 k2).app (.one h3 k3))) ([.int .i64 h1.kind, .int .i64 h1.fro, .int .i64 h1.til, .string h1.word, .int .i64 h1.at_, .slice A1 k1.len c1, .int .i64 h2.kind, .int .i64 h2.fro, .int .i64 h2.til, .string h2.word, .int .i64 h2.at_, .slice A2 k2.len c2, .int .i64 h3.kind, .int .i64 h3.fro, .int .i64 h3.til, .string h3.word, .int .i64 h3.at_, .slice A3 k3.len c3]) :=
  FC.app _ _ (FC.one a) (FC.app _ _ (FC.one b) (FC.one c))
theorem KV.slice2 {w : World} {P : Nat → Prop} {h1 h2 : Hd} {k1 k2 : Fo} {A1 A2 : Option Addr} {c1 c2 : Nat} (a : KV w P k1 A1 c1) (b : KV w P k2 A2 c2) :
    FC w P ((Fo.one h1 k1).app (.one h2 k2)) ([.int .i64 h1.kind, .int .i64 h1.fro, .int .i64 h1.til, .string h1.word, .int .i64 h1.at_, .slice A1 k1.len c1, .int .i64 h2.kind, .int .i64 h2.fro, .int .i64 h2.til, .string h2.word, .int .i64 h2.at_, .slice A2 k2.len c2]) :=
  FC.app _ _ (FC.one a) (FC.one b)
set_option maxHeartbeats 8000000 in
set_option maxRecDepth 100000 in
theorem lambda_c (X : Cx) (f : Nat) (hf : f ≤ 1000000) (IB : ExC X f .block 95) : LamC X (f + 1) := by
  intro b i w r hr hS hi
  have hrb := hS.row.lt
  have hle := hS.wf.le
  have L0 := Lib.hid (LS.start hS)
  rw [exM] at hr
  obtain ⟨⟨pf, p1, b1⟩, hp, hr⟩ := Option.bind_eq_some_iff.1 hr
  obtain ⟨⟨tf, p2, b2⟩, ht, hr⟩ := Option.bind_eq_some_iff.1 hr
  obtain ⟨⟨kf, p3, b3⟩, hk, hr⟩ := Option.bind_eq_some_iff.1 hr
  injection hr with hr
  subst hr
  dsimp only at ht hk
  have C1 : Hid (∀ w', St X w' b → Calls Try.prog 93 #[X.p, .int .i64 i] w' fun e w'' => NodeP X w' (pf, p1, b1) e w'') := fun w' h => params_any X f hf b i w' _ hp h hi
  have C2 : Hid (p1 < X.l.length → ∀ w', St X w' b1 → Calls Try.prog 94 #[X.p, .int .i64 p1] w' fun e w'' => NodeP X w' (tf, p2, b2) e w'') := fun hl w' h => typed_any X f hf b1 p1 w' _ ht h hl
  have C3 : Hid (p2 < X.l.length → ∀ w', St X w' b2 → Calls Try.prog 95 #[X.p, .int .i64 p2] w' fun e w'' => NodeP X w' (kf, p3, b3) e w'') := fun hl w' h => IB b2 p2 w' _ hk h hl
  clear hS hp ht hk
  go_enter Try.func84, Try.ntmps84
  go_wp2_with fail
  refine (C1.out _ L0.out.st).mono ?_
  rintro e w1 ⟨h1, k1, A1, c1, e1, rfl, hK1, hS1, hF1, hl1⟩
  dsimp only at e1 hS1 hl1
  subst e1
  obtain ⟨x1, x2, x3, x4, x5⟩ := h1
  have L1 := Lib.hid ((L0.out.kid hS1 hF1 hK1).alloc w1.heap.size rfl 25 (nc ⟨x1, x2, x3, x4, x5⟩ A1 k1.len c1))
  clear hS1 hF1 hK1
  go_wp2_with fail
  refine (C2.out hl1 _ L1.out.st).mono ?_
  rintro e w2 ⟨h2, k2, A2, c2, e2, rfl, hK2, hS2, hF2, hl2⟩
  dsimp only at e2 hS2 hl2
  subst e2
  obtain ⟨y1, y2, y3, y4, y5⟩ := h2
  have L2 := Lib.hid ((L1.out.kid hS2 hF2 hK2).alloc w2.heap.size rfl 25 (nc ⟨y1, y2, y3, y4, y5⟩ A2 k2.len c2))
  clear hS2 hF2 hK2
  go_wp2_with fail
  refine (C3.out hl2 _ L2.out.st).mono ?_
  rintro e w3 ⟨h3, k3, A3, c3, e3, rfl, hK3, hS3, hF3, hl3⟩
  dsimp only at e3 hS3 hl3
  subst e3
  obtain ⟨z1, z2, z3, z4, z5⟩ := h3
  have L3 := Lib.hid ((L2.out.kid hS3 hF3 hK3).alloc w3.heap.size rfl 25 (nc ⟨z1, z2, z3, z4, z5⟩ A3 k3.len c3))
  have L4 := Lib.hid (L3.out.slice (w3.heap.size + 1) (by simp) (cs := #[.int .i64 x1, .int .i64 x2, .int .i64 x3, .string x4, .int .i64 x5, .slice A1 k1.len c1, .int .i64 y1, .int .i64 y2, .int .i64 y3, .string y4, .int .i64 y5, .slice A2 k2.len c2, .int .i64 z1, .int .i64 z2, .int .i64 z3, .string z4, .int .i64 z5, .slice A3 k3.len c3]) (KV.slice3 (h1 := ⟨x1, x2, x3, x4, x5⟩) (h2 := ⟨y1, y2, y3, y4, y5⟩) (h3 := ⟨z1, z2, z3, z4, z5⟩) (L3.out.kidP 2 rfl) (L3.out.kidP 1 rfl) (L3.out.kidP 0 rfl)))
  have m0 := (L3.out.row 0 rfl).cell
  have m1 := (L3.out.row 1 rfl).cell
  have m2 := (L3.out.row 2 rfl).cell
  clear hS3 hF3 hK3
  go_wp2_with fail
  go_ret2
  exact ⟨some ⟨w3.heap.size + 1, 0, none⟩, 3, rfl, (L4.out.kidP 0 rfl).new_ (fun g h => h.1), L4.out.st, L4.out.fr, hl3⟩
theorem stmts_end {l : List Tok} {f : Nat} {b : Int} {i : Nat} {r : Fo × Nat × Int} (h : exM l f .stmts b i = some r) (hc : ¬ (b < 0 ∧ ¬ isM l i sShut = true)) : r = (.nil, i, b) := by
  cases f with
  | zero => rw [exM] at h; cases h
  | succ f => rw [exM, if_neg hc] at h; injection h with h; exact h.symm
theorem stmts_go {l : List Tok} {f : Nat} {b : Int} {i : Nat} {r : Fo × Nat × Int} (h : exM l f .stmts b i = some r) (hc : b < 0 ∧ ¬ isM l i sShut = true) :
    ∃ f' t, f = f' + 1 ∧ exM l f' .stmt b i = some t ∧ ∃ r', exM l f' .stmts t.2.2 t.2.1 = some r' ∧ r = (t.1.app r'.1, r'.2) := by
  cases f with
  | zero => rw [exM] at h; cases h
  | succ f =>
    rw [exM, if_pos hc] at h
    obtain ⟨t, h1, h2⟩ := Option.bind_eq_some_iff.1 h
    obtain ⟨r', h3, h4⟩ := Option.map_eq_some_iff.1 h2
    exact ⟨f, t, rfl, h1, r', h3, h4.symm⟩
set_option maxHeartbeats 8000000 in
set_option maxRecDepth 100000 in
theorem block_c (X : Cx) (f : Nat) (hf : f ≤ 1000000) (IS' : ∀ f', f' ≤ f → ExC X f' .stmt 99) : ExC X (f + 1) .block 95 := by
  intro b i w r hr hS hi
  have L0 := Lib.hid ((LS.start hS).alloc w.heap.size rfl 25 zc)
  have hle := hS.wf.le
  have hrb := hS.row.lt
  rw [exM] at hr
  obtain ⟨⟨p1, q1⟩, hy1⟩ : ∃ y, y = wantM X.l b i sOpen := ⟨_, rfl⟩
  rw [← hy1] at hr
  obtain ⟨⟨xf, xi, xb⟩, hx, hr2⟩ := Option.bind_eq_some_iff.1 hr
  obtain ⟨⟨yi, yb⟩, hy⟩ : ∃ y, y = wantM X.l xb xi sShut := ⟨_, rfl⟩
  dsimp only at hr2 hx
  rw [← hy] at hr2
  dsimp only at hr2
  injection hr2 with hr2
  subst hr2
  have HX := Lib.hid hx
  have W1 : Hid (∀ w', St X w' b → Calls Try.prog 83 #[X.p, .int .i64 i, .string ⟨#[123]⟩] w' fun e w'' => AtP X w' (p1, q1) e w'') := fun w' h => by rw [hy1]; exact want_any X b i ⟨#[123]⟩ w' h hi
  have WT : Hid (∀ w', St X w' xb → xi < X.l.length → Calls Try.prog 83 #[X.p, .int .i64 xi, .string ⟨#[125]⟩] w' fun e w'' => AtP X w' (yi, yb) e w'') := fun w' h hl => by rw [hy]; exact want_any X xb xi ⟨#[125]⟩ w' h hl
  clear hS hx hr hy hy1
  go_enter Try.func95, Try.ntmps95
  go_wp2_with fail
  refine (W1.out _ L0.out.st).mono ?_
  rintro e w1 ⟨rfl, hS1, hF1, hl1⟩
  have L1 := Lib.hid (L0.out.step hS1 hF1)
  clear hS1 hF1
  go_wp2_with fail
  go_loopg [6, 7] (f + 1) (fun kx s6 s9 wr => ∃ (fk ik : Nat) (bk : Int) (Kk : Fo) (rk : Fo × Nat × Int) (u : Value), u = s9 ∧ s6 = .int .i64 ik ∧ fk ≤ kx ∧ Kk.len + fk ≤ f ∧ ik < X.l.length ∧ Hid (exM X.l fk .stmts bk ik = some rk) ∧ Hid (xf = Kk.app rk.1 ∧ xi = rk.2.1 ∧ xb = rk.2.2) ∧ Hid (LS X w wr bk [(w.heap.size, 25, zc)] [] s9 Kk))
  case atStart => exact ⟨f, p1, q1, .nil, (xf, xi, xb), _, rfl, by go_num, by omega, by simp [Fo.len], hl1, HX.out, ⟨rfl, rfl, rfl⟩, L1.out⟩
  case round =>
    obtain ⟨fk, ik, bk, Kk, rk, u, rfl, rfl, hkx, hfk, hik, HG, HE, LK⟩ := hrel
    obtain ⟨z, hz⟩ : ∃ z : Bool, (z = true ↔ (bk < 0 ∧ ¬ isM X.l ik sShut = true)) := by
      by_cases h : bk < 0 ∧ ¬ isM X.l ik sShut = true
      · exact ⟨true, fun _ => h, fun _ => rfl⟩
      · exact ⟨false, by simp only [Bool.false_eq_true, false_iff]; exact h⟩
    have HZ := Lib.hid hz
    have rk0 := LK.out.st.row.cell
    obtain ⟨AK, cK, eK, hcK, _⟩ := LK.out.list
    obtain rfl := eK
    have ISK := Lib.hid (fun (x : ByteArray) w' h => is_any X bk ik x w' h hik)
    clear hz
    go_upto_region 3 with fail
    go_cut [23] from 13 to 34 (fun s64 wx => s64 = .bool z ∧ Hid (LS X w wx bk [(w.heap.size, 25, zc)] [] (.slice AK Kk.len cK) Kk))
    case first =>
      by_cases h1 : bk < 0
      · have C := ISK.out ⟨#[125]⟩ wr LK.out.st
        cases hq : isM X.l ik sShut
        · rw [show isM X.l ik (⟨#[125]⟩ : ByteArray).data.toList = false from hq] at C
          have CC := Lib.hid C
          obtain rfl : z = true := HZ.out.2 ⟨h1, by rw [hq]; simp⟩
          clear C hq
          go_wp2_with fail
          refine CC.out.mono ?_
          rintro e wq ⟨rfl, hbl⟩
          have LQ := Lib.hid (LK.out.other hbl)
          clear hbl
          go_wp2_with fail
          go_meet
          exact ⟨rfl, LQ.out⟩
        · rw [show isM X.l ik (⟨#[125]⟩ : ByteArray).data.toList = true from hq] at C
          have CC := Lib.hid C
          obtain rfl : z = false := by
            cases z
            · rfl
            · exact absurd hq (HZ.out.1 rfl).2
          clear C hq
          go_wp2_with fail
          refine CC.out.mono ?_
          rintro e wq ⟨rfl, hbl⟩
          have LQ := Lib.hid (LK.out.other hbl)
          clear hbl
          go_wp2_with fail
          go_meet
          exact ⟨rfl, LQ.out⟩
      · obtain rfl : z = false := by
          cases z
          · rfl
          · exact absurd (HZ.out.1 rfl).1 h1
        go_wp2_with fail
        go_meet
        exact ⟨rfl, LK.out⟩
    case rest =>
    obtain ⟨rfl, LC⟩ := hcut
    clear LK rk0 ISK
    cases z
    · have hrk := stmts_end HG.out (fun hh => by have := HZ.out.2 hh; cases this)
      obtain ⟨h1, h2, h3⟩ := HE.out
      rw [hrk, Fo.app_nil] at h1
      rw [hrk] at h2 h3
      dsimp only at h1 h2 h3
      subst h1 h2 h3
      have hxl := hik
      clear HG HE HZ hrk
      go_wp2_with fail
      refine (WT.out _ LC.out.st hxl).mono ?_
      rintro e wa ⟨rfl, hSa, hFa, hla⟩
      have La := Lib.hid (LC.out.step hSa hFa)
      clear hSa hFa
      go_wp2_with fail
      refine (ended_any ⟨6, i, 0, e0, 0⟩ none 0 0 yi AK xf.len cK _).mono ?_
      rintro e wb ⟨rfl, hbb⟩
      have Lb := Lib.hid ((La.out.other hbb).put6 0 rfl rfl (.int .i64 6) (.int .i64 i) (.int .i64 yi) (.string e0) (.int .i64 0) (.slice AK xf.len cK))
      have r7 := ((La.out.other hbb).row 0 rfl).cell
      have t7 := ((La.out.other hbb).row 0 rfl).thaw
      clear hbb
      go_wp2
      refine bodyPost_ret ?_ rfl ⟨⟨6, i, yi, e0, 0⟩, xf, AK, cK, rfl, rfl, ?_, Lb.out.st, Lb.out.fr, hla⟩
      · simp [results, Try.results95, go_sem, e0, r7]
      · exact Lb.out.kv
    · obtain ⟨f', t, hf', hty, r', hG', hrk⟩ := stmts_go HG.out (HZ.out.1 rfl)
      obtain ⟨tf, a3, b3⟩ := t
      dsimp only at hty hG' hrk
      have C3 : Hid (∀ w', St X w' bk → Calls Try.prog 99 #[X.p, .int .i64 ik] w' fun e w'' => NodeP X w' (tf, a3, b3) e w'') := fun w' h => IS' f' (by omega) bk ik w' _ hty h hik
      have HF' := Lib.hid hf'
      obtain ⟨h1, h2, h3⟩ := HE.out
      rw [hrk] at h1 h2 h3
      dsimp only at h1 h2 h3
      have HH1 := Lib.hid h1
      have HH2 := Lib.hid h2
      have HH3 := Lib.hid h3
      have HG1 := Lib.hid hG'
      clear hty hrk HG HZ HE hf' h1 h2 h3 hG'
      go_wp2_with fail
      refine (C3.out _ LC.out.st).mono ?_
      rintro e w5 ⟨h5, k5, A5, c5, e5, rfl, hK5, hS5, hF5, hl5⟩
      dsimp only at e5 hS5 hl5
      have HE5 := Lib.hid e5
      obtain ⟨hk1, hk2, hk3, hk4, hk5⟩ := h5
      have M6 := Lib.hid (((LC.out.kid hS5 hF5 hK5).alloc w5.heap.size rfl 25 (nc ⟨hk1, hk2, hk3, hk4, hk5⟩ A5 k5.len c5)).other (bel1 _ (.cells (nc ⟨hk1, hk2, hk3, hk4, hk5⟩ A5 k5.len c5) 25)))
      have m1 := (M6.out.row 0 rfl).cell
      clear hS5 hF5 hK5 e5
      obtain ⟨cs, o1, o2⟩ := M6.out.own
      have O1 := Lib.hid o1
      have O2 := Lib.hid o2
      obtain ⟨i0, hi0, hz0, hz1, hz2⟩ := info_parts info25
      have b5 := Lib.hid M6.out.size
      have b3' : Kk.len + 1 ≤ maxLen := by unfold maxLen; omega
      have b4' : (Kk.len + 1) * 72 ≤ 140737488355328 := by omega
      have CN := Lib.hid (cells_nd (w5.alloc (.cells (nc ⟨hk1, hk2, hk3, hk4, hk5⟩ A5 k5.len c5) 25)) (.int .i64 hk1) (.int .i64 hk2) (.int .i64 hk3) (.string hk4) (.int .i64 hk5) (.slice A5 k5.len c5))
      clear o1 o2
      go_wp2_with (at_builtin; refine wpList_append_at rfl (.tmp 31) (.tmp 33) 23 rfl w.heap.size 25 i0 (.agg #[.int .i64 0, .int .i64 0, .int .i64 0, .string ⟨#[]⟩, .int .i64 0, .slice none 0 0]) 6 72 Try.underlying23 hi0 hz0 hz1 hz2 rfl (by decide) _ Kk.len cs rfl O1.out ⟨w5.heap.size + 1, 0, none⟩ 1 1 [.int .i64 hk1, .int .i64 hk2, .int .i64 hk3, .string hk4, .int .i64 hk5, .slice A5 k5.len c5] rfl rfl (by simpa using CN.out) (one_nd ⟨hk1, hk2, hk3, hk4, hk5⟩ _ _ _) b3' b4' b5.out ?_)
      intro v' w7 hown' hgrow hat
      have M7 := Lib.hid (M6.out.push ⟨O1.out, O2.out⟩ (k := .one ⟨hk1, hk2, hk3, hk4, hk5⟩ k5) (FC.one (M6.out.kidP 0 rfl)) hown' hgrow (fun j hj => by
        rcases hat j hj with h | h
        · exact .inl h
        · exact .inr (by simpa using h)))
      clear hown' hgrow hat b3' b4' b5 CN O1 O2
      have M7 := Lib.hid M7.out.drop.noK
      have hkl : (Kk.app (.one ⟨hk1, hk2, hk3, hk4, hk5⟩ k5)).len = Kk.len + 1 := by rw [Fo.len_app]; rfl
      have HE2 := Lib.hid (show xf = (Kk.app (.one ⟨hk1, hk2, hk3, hk4, hk5⟩ k5)).app r'.1 ∧ xi = r'.2.1 ∧ xb = r'.2.2 from ⟨by rw [HH1.out, Fo.app_assoc, HE5.out], HH2.out, HH3.out⟩)
      have hf'' := HF'.out
      clear m1
      go_wp2_with fail
      go_roundg f'
      case measure => omega
      case rel => exact ⟨f', a3, b3, _, r', _, rfl, by go_num, by omega, by omega, hl5, HG1.out, HE2.out, M7.out⟩
end Ps
end Go.Proofs.Ytnefnnoleeeedaa
