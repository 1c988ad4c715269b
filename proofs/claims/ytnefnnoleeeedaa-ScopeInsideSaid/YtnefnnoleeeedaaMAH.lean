/- Contracts: the document's reader: the other statements. -/
import Derived.Deep.RegionHeld3
import Derived.BigRegion
import Derived.RegionTactic
import Derived.ChangeAlike
import Derived.Test.YtnefnnoleeeedaaMAG
import Derived.Test.YtnefnnoleeeedaaMAB
import Derived.BigQuiet
import Derived.Test.YtnefnnoleeeedaaMAC
import Derived.Deep.LoopGhost
namespace Go.Proofs.Ytnefnnoleeeedaa
open Go.RowKit
namespace Ps

/-- How a statement that is no if and no while begins. -/
def Chain (l : List Tok) (f : Nat) (b : Int) (i : Nat) (hd : Hd) (kf : Fo) (a0 : Nat) (b0 : Int) : Prop :=
  (isM l i kLet = true ∧ ∃ w2 u p q, wordM l b ⟨7, i, 0, e0, 0⟩ (i + 1) = (hd, w2, u) ∧ typedM l f u w2 = some (kf, p, q) ∧ wantM l q p sEq = (a0, b0)) ∨
  (isM l i kLet = false ∧ isM l i kPrint = true ∧ hd = ⟨11, i, 0, e0, 0⟩ ∧ kf = .nil ∧ a0 = i + 1 ∧ b0 = b) ∨
  (isM l i kLet = false ∧ isM l i kPrint = false ∧ isM l i kReturn = true ∧ hd = ⟨12, i, 0, e0, 0⟩ ∧ kf = .nil ∧ a0 = i + 1 ∧ b0 = b) ∨
  (isM l i kLet = false ∧ isM l i kPrint = false ∧ isM l i kReturn = false ∧ (kindAt l i = 1 ∧ isM l (i + 1) sEq = true) ∧ ∃ w2, wordM l b ⟨8, i, 0, e0, 0⟩ i = (hd, w2, b0) ∧ kf = .nil ∧ a0 = w2 + 1) ∨
  (isM l i kLet = false ∧ isM l i kPrint = false ∧ isM l i kReturn = false ∧ ¬ (kindAt l i = 1 ∧ isM l (i + 1) sEq = true) ∧ hd = ⟨13, i, 0, e0, 0⟩ ∧ kf = .nil ∧ a0 = i ∧ b0 = b)
theorem stmt_chain {l : List Tok} {f : Nat} {b : Int} {i : Nat} {r : Fo × Nat × Int} (h : exM l (f + 1) .stmt b i = some r) (q0 : isM l i kIf = false) (q1 : isM l i kWhile = false) :
    ∃ hd kf a0 b0, Chain l f b i hd kf a0 b0 ∧ (exM l f .expr b0 a0).bind (fun v => some ((Fo.one { hd with til := (wantM l v.2.2 v.2.1 sSem).1 } (kf.app v.1), (wantM l v.2.2 v.2.1 sSem).1, (wantM l v.2.2 v.2.1 sSem).2) : Fo × Nat × Int)) = some r := by
  rw [exM, if_neg (by rw [q0]; simp), if_neg (by rw [q1]; simp)] at h
  cases qL : isM l i kLet
  · rw [if_neg (by rw [qL]; simp)] at h
    cases qP : isM l i kPrint
    · cases qR : isM l i kReturn
      · by_cases hs : kindAt l i = 1 ∧ isM l (i + 1) sEq = true
        · rw [if_neg (by rw [qP]; simp), if_neg (by rw [qR]; simp), if_pos hs] at h
          exact ⟨_, .nil, _, _, .inr (.inr (.inr (.inl ⟨qL, qP, qR, hs, _, rfl, rfl, rfl⟩))), h⟩
        · rw [if_neg (by rw [qP]; simp), if_neg (by rw [qR]; simp), if_neg hs] at h
          exact ⟨_, .nil, _, _, .inr (.inr (.inr (.inr ⟨qL, qP, qR, hs, rfl, rfl, rfl, rfl⟩))), h⟩
      · rw [if_neg (by rw [qP]; simp), if_pos qR] at h
        exact ⟨_, .nil, _, _, .inr (.inr (.inl ⟨qL, qP, qR, rfl, rfl, rfl, rfl⟩)), h⟩
    · rw [if_pos qP] at h
      exact ⟨_, .nil, _, _, .inr (.inl ⟨qL, qP, rfl, rfl, rfl, rfl⟩), h⟩
  · rw [if_pos qL] at h
    obtain ⟨⟨tf, p, q⟩, h1, h2⟩ := Option.bind_eq_some_iff.1 h
    exact ⟨_, tf, _, _, .inl ⟨qL, _, _, p, q, rfl, h1, rfl⟩, h2⟩

theorem hat_of {v : Value} {g n cap H s : Nat} (h : v.ownBlock = some g ∨ g = H) (hs : s ≤ H) : ∀ j, (Value.slice (some ⟨g, 0, none⟩) n cap).ownBlock = some j → v.ownBlock = some j ∨ s ≤ j := fun j hj => by
  simp [Value.ownBlock] at hj
  subst hj
  rcases h with h | h
  · exact .inl h
  · exact .inr (by omega)
set_option maxHeartbeats 16000000 in
set_option maxRecDepth 100000 in
theorem stmt_rest (X : Cx) (f : Nat) (hf : f ≤ 1000000) (IE : ExC X f .expr 100) (b : Int) (i : Nat) (w : World) (r : Fo × Nat × Int) (hr : exM X.l (f + 1) .stmt b i = some r) (hS : St X w b) (hi : i < X.l.length) (q0 : isM X.l i kIf = false) (q1 : isM X.l i kWhile = false) :
    Calls Try.prog 99 #[X.p, .int .i64 i] w fun e w' => NodeP X w r e w' := by
  have hle := hS.wf.le
  have WF := Lib.hid hS.wf
  have hrb := hS.row.lt
  have e1 : IntKind.i64.wrap ((i : Int) + 1) = ((i + 1 : Nat) : Int) := by rw [IntKind.wrap_i64]; omega
  obtain ⟨⟨g1, g2, g3, g4, g5⟩, kf, a0, b0, hch, hr⟩ := stmt_chain hr q0 q1
  obtain ⟨⟨vf, p1, b1⟩, hv, hr⟩ := Option.bind_eq_some_iff.1 hr
  obtain ⟨⟨p2, b2⟩, hy⟩ : ∃ y, y = wantM X.l b1 p1 sSem := ⟨_, rfl⟩
  dsimp only at hr
  rw [← hy] at hr
  injection hr with hr
  subst hr
  have HC := Lib.hid hch
  have L0 := Lib.hid (((LS.start hS).alloc w.heap.size rfl 25 zc).alloc (w.heap.size + 1) (by simp) 25 (nc ⟨13, i, 0, e0, 0⟩ none 0 0))
  have ISK := Lib.hid (fun (x : ByteArray) w' h => is_any X b i x w' h hi)
  have I0 : Hid (∀ w', St X w' b → Calls Try.prog 53 #[X.p, .int .i64 i, .string ⟨#[105, 102]⟩] w' fun e w'' => e = .returned (.bool false) ∧ Below w'.heap.size w' w'') := fun w' h => by rw [← q0]; exact is_any X b i ⟨#[105, 102]⟩ w' h hi
  have I1 : Hid (∀ w', St X w' b → Calls Try.prog 53 #[X.p, .int .i64 i, .string ⟨#[119, 104, 105, 108, 101]⟩] w' fun e w'' => e = .returned (.bool false) ∧ Below w'.heap.size w' w'') := fun w' h => by rw [← q1]; exact is_any X b i ⟨#[119, 104, 105, 108, 101]⟩ w' h hi
  have CE : Hid (a0 < X.l.length → ∀ w', St X w' b0 → Calls Try.prog 100 #[X.p, .int .i64 a0] w' fun e w'' => NodeP X w' (vf, p1, b1) e w'') := fun hl w' h => IE b0 a0 w' _ hv h hl
  have CW : Hid (p1 < X.l.length → ∀ w', St X w' b1 → Calls Try.prog 83 #[X.p, .int .i64 p1, .string ⟨#[59]⟩] w' fun e w'' => AtP X w' (p2, b2) e w'') := fun hl w' h => by rw [hy]; exact want_any X b1 p1 ⟨#[59]⟩ w' h hl
  clear hS hv hy hch q0 q1
  go_enter Try.func99, Try.ntmps99
  go_wp2_with fail
  refine (I0.out _ L0.out.st).mono ?_
  rintro e w1 ⟨rfl, hb1⟩
  have L1 := Lib.hid (L0.out.other hb1)
  clear hb1
  go_wp2_with fail
  refine (I1.out _ L1.out.st).mono ?_
  rintro e w2 ⟨rfl, hb2⟩
  have L2 := Lib.hid (L1.out.other hb2)
  clear hb2
  obtain ⟨z, hz⟩ : ∃ z, z = isM X.l i kLet := ⟨_, rfl⟩
  have cL := ISK.out ⟨#[108, 101, 116]⟩ _ L2.out.st
  rw [show isM X.l i (⟨#[108, 101, 116]⟩ : ByteArray).data.toList = z from hz.symm] at cL
  have CL := Lib.hid cL
  have HZ := Lib.hid hz
  clear cL hz
  go_wp2_with fail
  refine CL.out.mono ?_
  rintro e wL ⟨rfl, hbL⟩
  have L3 := Lib.hid (L2.out.other hbL)
  clear hbL
  go_upto_if 78 with fail
  go_cut [7, 8, 14, 15] from 79 (fun s7 s8 _ _ wx => s7 = .int .i64 a0 ∧ a0 < X.l.length ∧ kf.len ≤ 1 ∧ Hid (LS X w wx b0 [(w.heap.size + 1, 25, nc ⟨g1, g2, g3, g4, g5⟩ none 0 0), (w.heap.size, 25, zc)] [] s8 kf))
  case first =>
    cases z
    case true =>
      have qL := HZ.out.symm
      have hnx := isM_next WF.out qL
      obtain ⟨w2, u, p, q, hw, ht, hwt⟩ : ∃ w2 u p q, wordM X.l b ⟨7, i, 0, e0, 0⟩ (i + 1) = (⟨g1, g2, g3, g4, g5⟩, w2, u) ∧ typedM X.l f u w2 = some (kf, p, q) ∧ wantM X.l q p sEq = (a0, b0) := by
        rcases HC.out with h | h | h | h | h
        · exact h.2
        all_goals (rw [qL] at h; cases h.1)
      obtain ⟨j, hj⟩ : ∃ j, j = i + 1 := ⟨_, rfl⟩
      rw [← hj] at hw hnx e1
      have CW1 : Hid (∀ w', St X w' b → Calls Try.prog 82 #[X.p, nv ⟨7, i, 0, e0, 0⟩ none 0 0, .int .i64 j] w' fun e w'' => WordP X w' (⟨g1, g2, g3, g4, g5⟩, w2, u) none 0 0 e w'') := fun w' h => by rw [← hw]; exact word_any X b _ none 0 0 j w' h hnx
      have CT : Hid (w2 < X.l.length → ∀ w', St X w' u → Calls Try.prog 94 #[X.p, .int .i64 w2] w' fun e w'' => NodeP X w' (kf, p, q) e w'') := fun hl w' h => typed_any X f hf u w2 w' _ ht h hl
      have CQ : Hid (p < X.l.length → ∀ w', St X w' q → Calls Try.prog 83 #[X.p, .int .i64 p, .string ⟨#[61]⟩] w' fun e w'' => AtP X w' (a0, b0) e w'') := fun hl w' h => by rw [← hwt]; exact want_any X q p ⟨#[61]⟩ w' h hl
      have L4 : Hid (LS X w (wL.setCell ⟨w.heap.size + 1, 0, none⟩ (.int .i64 7)) b [(w.heap.size + 1, 25, nc ⟨7, i, 0, e0, 0⟩ none 0 0), (w.heap.size, 25, zc)] [] (.slice none 0 0) .nil) := L3.out.set 0 rfl 0 (.int .i64 7)
      have m0 := (L3.out.row 0 rfl).cell
      have t0 := (L3.out.row 0 rfl).thaw
      have m4 := (L4.out.row 0 rfl).cell
      clear HC ISK CE CW HZ hw ht hwt qL hj
      go_wp2_with fail
      refine (CW1.out _ L4.out.st).mono ?_
      rintro e w4 ⟨rfl, hS4, hF4, hl4⟩
      have L5 := Lib.hid ((L4.out.step hS4 hF4).put6 0 rfl rfl (.int .i64 g1) (.int .i64 g2) (.int .i64 g3) (.string g4) (.int .i64 g5) (.slice none 0 0))
      have m5 := ((L4.out.step hS4 hF4).row 0 rfl).cell
      have t5 := ((L4.out.step hS4 hF4).row 0 rfl).thaw
      clear hS4 hF4 m0 t0 m4
      go_wp2_with fail
      refine (CT.out hl4 _ L5.out.st).mono ?_
      rintro e w5 ⟨h5, k5, A5, c5, e5, rfl, hK5, hS5, hF5, hl5⟩
      dsimp only at e5 hS5 hl5
      obtain ⟨u1, u2, u3, u4, u5⟩ := h5
      have L6 := Lib.hid ((L5.out.kid hS5 hF5 hK5).alloc w5.heap.size rfl 25 (nc ⟨u1, u2, u3, u4, u5⟩ A5 k5.len c5))
      have M6 := Lib.hid (L6.out.other (bel1 _ (.cells (nc ⟨u1, u2, u3, u4, u5⟩ A5 k5.len c5) 25)))
      have m6 := (L6.out.row 0 rfl).cell
      clear hS5 hF5 hK5 m5 t5
      obtain ⟨cs, o1, o2⟩ := M6.out.own
      have O1 := Lib.hid o1
      have O2 := Lib.hid o2
      obtain ⟨i0, hi0, hz0, hz1, hz2⟩ := info_parts info25
      have b5 := Lib.hid M6.out.size
      have b3' : Fo.nil.len + 1 ≤ maxLen := by decide
      have b4' : (Fo.nil.len + 1) * 72 ≤ 140737488355328 := by decide
      have CN := Lib.hid (cells_nd (w5.alloc (.cells (nc ⟨u1, u2, u3, u4, u5⟩ A5 k5.len c5) 25)) (.int .i64 u1) (.int .i64 u2) (.int .i64 u3) (.string u4) (.int .i64 u5) (.slice A5 k5.len c5))
      clear o1 o2
      go_wp2_with (at_builtin; refine wpList_append_at rfl (.tmp 94) (.tmp 96) 23 rfl w.heap.size 25 i0 (.agg #[.int .i64 0, .int .i64 0, .int .i64 0, .string ⟨#[]⟩, .int .i64 0, .slice none 0 0]) 6 72 Try.underlying23 hi0 hz0 hz1 hz2 rfl (by decide) _ Fo.nil.len cs rfl O1.out ⟨w5.heap.size + 1, 0, none⟩ 1 1 [.int .i64 u1, .int .i64 u2, .int .i64 u3, .string u4, .int .i64 u5, .slice A5 k5.len c5] rfl rfl (by simpa using CN.out) (one_nd ⟨u1, u2, u3, u4, u5⟩ _ _ _) b3' b4' b5.out ?_)
      intro v' w7 hown' hgrow hat
      have M7 := Lib.hid (M6.out.push ⟨O1.out, O2.out⟩ (k := .one ⟨u1, u2, u3, u4, u5⟩ k5) (FC.one (M6.out.kidP 0 rfl)) hown' hgrow (fun j hj => by
        rcases hat j hj with h | h
        · exact .inl h
        · exact .inr (by simpa using h)))
      clear hown' hgrow hat b3' b4' b5 CN O1 O2 m6
      go_wp2_with fail
      refine (CQ.out hl5 _ M7.out.st).mono ?_
      rintro e w8 ⟨rfl, hS8, hF8, hl8⟩
      have L8 := Lib.hid (M7.out.step hS8 hF8)
      clear hS8 hF8
      subst e5
      go_wp2_with fail
      go_meet
      exact ⟨rfl, hl8, Nat.le_refl _, L8.out.drop.noK⟩
    case false =>
    have qL := HZ.out.symm
    cases qP : isM X.l i kPrint
    case true =>
      have cP := ISK.out ⟨#[112, 114, 105, 110, 116]⟩ _ L3.out.st
      rw [show isM X.l i (⟨#[112, 114, 105, 110, 116]⟩ : ByteArray).data.toList = true from qP] at cP
      have CP := Lib.hid cP
      clear cP
      go_wp2_with fail
      refine CP.out.mono ?_
      rintro e wP ⟨rfl, hbP⟩
      have L4 := Lib.hid (L3.out.other hbP)
      clear hbP
      have hnx := isM_next WF.out qP
      obtain ⟨hh, hh2, hh3, hh4⟩ : (⟨g1, g2, g3, g4, g5⟩ : Hd) = ⟨11, i, 0, e0, 0⟩ ∧ kf = .nil ∧ a0 = i + 1 ∧ b0 = b := by
        rcases HC.out with h | h | h | h | h
        · rw [qL] at h; cases h.1
        · exact h.2.2
        · rw [qP] at h; cases h.2.1
        · rw [qP] at h; cases h.2.1
        · rw [qP] at h; cases h.2.1
      obtain ⟨x1, x2, x3, x4, x5⟩ := Hd.mk.inj hh
      have x2 := x2.symm
      subst x1 x2 x3 x4 x5
      subst hh2 hh3 hh4
      have m0 := (L4.out.row 0 rfl).cell
      have t0 := (L4.out.row 0 rfl).thaw
      have LZ : Hid (LS X w (wP.setCell ⟨w.heap.size + 1, 0, none⟩ (.int .i64 11)) b0 [(w.heap.size + 1, 25, nc ⟨11, i, 0, e0, 0⟩ none 0 0), (w.heap.size, 25, zc)] [] (.slice none 0 0) .nil) := L4.out.set 0 rfl 0 (.int .i64 11)
      clear HC hh CE ISK
      go_wp2_with fail
      go_meet
      exact ⟨rfl, hnx, Nat.zero_le _, LZ.out⟩
    case false =>
    have cP := ISK.out ⟨#[112, 114, 105, 110, 116]⟩ _ L3.out.st
    rw [show isM X.l i (⟨#[112, 114, 105, 110, 116]⟩ : ByteArray).data.toList = false from qP] at cP
    have CP := Lib.hid cP
    clear cP
    go_wp2_with fail
    refine CP.out.mono ?_
    rintro e wP ⟨rfl, hbP⟩
    have L4 := Lib.hid (L3.out.other hbP)
    clear hbP
    cases qR : isM X.l i kReturn
    case true =>
      have cR := ISK.out ⟨#[114, 101, 116, 117, 114, 110]⟩ _ L4.out.st
      rw [show isM X.l i (⟨#[114, 101, 116, 117, 114, 110]⟩ : ByteArray).data.toList = true from qR] at cR
      have CR := Lib.hid cR
      clear cR
      go_wp2_with fail
      refine CR.out.mono ?_
      rintro e wR ⟨rfl, hbR⟩
      have L5 := Lib.hid (L4.out.other hbR)
      clear hbR
      have hnx := isM_next WF.out qR
      obtain ⟨hh, hh2, hh3, hh4⟩ : (⟨g1, g2, g3, g4, g5⟩ : Hd) = ⟨12, i, 0, e0, 0⟩ ∧ kf = .nil ∧ a0 = i + 1 ∧ b0 = b := by
        rcases HC.out with h | h | h | h | h
        · rw [qL] at h; cases h.1
        · rw [qP] at h; cases h.2.1
        · exact h.2.2.2
        · rw [qR] at h; cases h.2.2.1
        · rw [qR] at h; cases h.2.2.1
      obtain ⟨x1, x2, x3, x4, x5⟩ := Hd.mk.inj hh
      have x2 := x2.symm
      subst x1 x2 x3 x4 x5
      subst hh2 hh3 hh4
      have m0 := (L5.out.row 0 rfl).cell
      have t0 := (L5.out.row 0 rfl).thaw
      have LZ : Hid (LS X w (wR.setCell ⟨w.heap.size + 1, 0, none⟩ (.int .i64 12)) b0 [(w.heap.size + 1, 25, nc ⟨12, i, 0, e0, 0⟩ none 0 0), (w.heap.size, 25, zc)] [] (.slice none 0 0) .nil) := L5.out.set 0 rfl 0 (.int .i64 12)
      clear HC hh CE ISK
      go_wp2_with fail
      go_meet
      exact ⟨rfl, hnx, Nat.zero_le _, LZ.out⟩
    case false =>
    have cR := ISK.out ⟨#[114, 101, 116, 117, 114, 110]⟩ _ L4.out.st
    rw [show isM X.l i (⟨#[114, 101, 116, 117, 114, 110]⟩ : ByteArray).data.toList = false from qR] at cR
    have CR := Lib.hid cR
    clear cR
    go_wp2_with fail
    refine CR.out.mono ?_
    rintro e wR ⟨rfl, hbR⟩
    have L5 := Lib.hid (L4.out.other hbR)
    clear hbR
    have hle' := hle
    obtain ⟨gt, eg, lg, hct⟩ := L5.out.st.toks
    obtain ⟨k0, _, _, _⟩ := hct i hi
    have rr := L5.out.st.row.cell
    rw [eg] at rr
    have hcap := L5.out.st.cap
    have hil : (i : Int) < (X.l.length : Int) := by omega
    have hkg := kindAt_get hi
    have lrb := L5.out.st.row.lt
    have hlg : gt < wR.heap.size := by omega
    by_cases hk : kindAt X.l i = 1
    · have hj1 := kindAt_next WF.out (i := i) (by omega)
      have dk : ((X.l[i].kind : Int) == 1) = true := by rw [beq_iff_eq]; omega
      have c5 := is_any X b (i + 1) ⟨#[61]⟩ _ L5.out.st hj1
      cases qE : isM X.l (i + 1) sEq
      · rw [show isM X.l (i + 1) (⟨#[61]⟩ : ByteArray).data.toList = false from qE] at c5
        have C5 := Lib.hid c5
        have hdo : (⟨g1, g2, g3, g4, g5⟩ : Hd) = ⟨13, i, 0, e0, 0⟩ ∧ kf = .nil ∧ a0 = i ∧ b0 = b := by
          rcases HC.out with h | h | h | h | h
          · rw [qL] at h; cases h.1
          · rw [qP] at h; cases h.2.1
          · rw [qR] at h; cases h.2.2.1
          · have := h.2.2.2.1.2; rw [qE] at this; cases this
          · exact h.2.2.2.2
        obtain ⟨hh, hh2, hh3, hh4⟩ := hdo
        obtain ⟨x1, x2, x3, x4, x5⟩ := Hd.mk.inj hh
        have x2 := x2.symm
        subst x1 x2 x3 x4 x5 hh2
        have hh3 := hh3.symm
        have hh4 := hh4.symm
        subst hh3 hh4
        clear HC
        generalize X.l[i] = tt at *
        clear c5 hh qL qP qR qE hk hkg hct ISK
        go_wp2_with fail
        refine C5.out.mono ?_
        rintro e wE ⟨rfl, hbE⟩
        have L6 := Lib.hid (L5.out.other hbE)
        clear hbE
        go_wp2_with fail
        go_meet
        exact ⟨rfl, hi, Nat.zero_le _, L6.out⟩
      · rw [show isM X.l (i + 1) (⟨#[61]⟩ : ByteArray).data.toList = true from qE] at c5
        have C5 := Lib.hid c5
        have hnx := isM_next WF.out qE
        obtain ⟨w2, hw, hh2, hh3⟩ : ∃ w2, wordM X.l b ⟨8, i, 0, e0, 0⟩ i = (⟨g1, g2, g3, g4, g5⟩, w2, b0) ∧ kf = .nil ∧ a0 = w2 + 1 := by
          rcases HC.out with h | h | h | h | h
          · rw [qL] at h; cases h.1
          · rw [qP] at h; cases h.2.1
          · rw [qR] at h; cases h.2.2.1
          · exact h.2.2.2.2
          · exact absurd ⟨hk, qE⟩ h.2.2.2.1
        have ha : w2 + 1 < X.l.length := by
          have hw2 := hw
          unfold wordM at hw2
          by_cases hb0 : 0 ≤ b
          · rw [if_pos hb0] at hw2
            injection hw2 with h1 h2
            injection h2 with h2 h3
            omega
          · rw [if_neg hb0, if_pos hk] at hw2
            injection hw2 with h1 h2
            injection h2 with h2 h3
            omega
        subst hh2 hh3
        have e2 : IntKind.i64.wrap ((w2 : Int) + 1) = ((w2 + 1 : Nat) : Int) := by rw [IntKind.wrap_i64]; omega
        have CW1 : Hid (∀ w', St X w' b → Calls Try.prog 82 #[X.p, nv ⟨8, i, 0, e0, 0⟩ none 0 0, .int .i64 i] w' fun e w'' => WordP X w' (⟨g1, g2, g3, g4, g5⟩, w2, b0) none 0 0 e w'') := fun w' h => by rw [← hw]; exact word_any X b _ none 0 0 i w' h hi
        clear HC hw
        generalize X.l[i] = tt at *
        clear c5 qL qP qR qE hk hkg hct ISK
        go_wp2_with fail
        refine C5.out.mono ?_
        rintro e wE ⟨rfl, hbE⟩
        have L6 := Lib.hid (L5.out.other hbE)
        have L7 : Hid (LS X w (wE.setCell ⟨w.heap.size + 1, 0, none⟩ (.int .i64 8)) b [(w.heap.size + 1, 25, nc ⟨8, i, 0, e0, 0⟩ none 0 0), (w.heap.size, 25, zc)] [] (.slice none 0 0) .nil) := L6.out.set 0 rfl 0 (.int .i64 8)
        have m0 := (L6.out.row 0 rfl).cell
        have t0 := (L6.out.row 0 rfl).thaw
        have m4 := (L7.out.row 0 rfl).cell
        clear hbE
        go_wp2_with fail
        refine (CW1.out _ L7.out.st).mono ?_
        rintro e w8 ⟨rfl, hS4, hF4, hl4⟩
        have L8 := Lib.hid ((L7.out.step hS4 hF4).put6 0 rfl rfl (.int .i64 g1) (.int .i64 g2) (.int .i64 g3) (.string g4) (.int .i64 g5) (.slice none 0 0))
        have m5 := ((L7.out.step hS4 hF4).row 0 rfl).cell
        have t5 := ((L7.out.step hS4 hF4).row 0 rfl).thaw
        clear hS4 hF4 m0 t0 m4
        go_wp2_with fail
        go_meet
        exact ⟨rfl, ha, Nat.zero_le _, L8.out⟩
    · have dk : ((X.l[i].kind : Int) == 1) = false := by rw [beq_eq_false_iff_ne]; omega
      have hdo : (⟨g1, g2, g3, g4, g5⟩ : Hd) = ⟨13, i, 0, e0, 0⟩ ∧ kf = .nil ∧ a0 = i ∧ b0 = b := by
        rcases HC.out with h | h | h | h | h
        · rw [qL] at h; cases h.1
        · rw [qP] at h; cases h.2.1
        · rw [qR] at h; cases h.2.2.1
        · exact absurd h.2.2.2.1.1 hk
        · exact h.2.2.2.2
      obtain ⟨hh, hh2, hh3, hh4⟩ := hdo
      obtain ⟨x1, x2, x3, x4, x5⟩ := Hd.mk.inj hh
      have x2 := x2.symm
      subst x1 x2 x3 x4 x5 hh2
      have hh3 := hh3.symm
      have hh4 := hh4.symm
      subst hh3 hh4
      clear HC
      generalize X.l[i] = tt at *
      clear hh qL qP qR hk hkg hct ISK
      go_wp2_with fail
      go_meet
      exact ⟨rfl, hi, Nat.zero_le _, L5.out⟩
  case rest =>
  obtain ⟨rfl, ha0, hkf, LC⟩ := hcut
  clear HC ISK
  go_wp2_with fail
  refine (CE.out ha0 _ LC.out.st).mono ?_
  rintro e w5 ⟨h5, k5, A5, c5, e5, rfl, hK5, hS5, hF5, hl5⟩
  dsimp only at e5 hS5 hl5
  subst e5
  obtain ⟨u1, u2, u3, u4, u5⟩ := h5
  have L6 := Lib.hid ((LC.out.kid hS5 hF5 hK5).alloc w5.heap.size rfl 25 (nc ⟨u1, u2, u3, u4, u5⟩ A5 k5.len c5))
  clear hS5 hF5 hK5
  go_wp2_with fail
  refine (CW.out hl5 _ L6.out.st).mono ?_
  rintro e w6 ⟨rfl, hS6, hF6, hl6⟩
  have L7 := Lib.hid (L6.out.step hS6 hF6)
  clear hS6 hF6
  obtain ⟨Av, cv, ev, hcv, _⟩ := L7.out.list
  subst ev
  have L8 := Lib.hid (L7.out.other ((Below.refl _ w6).drew))
  have M5 := Lib.hid (L7.out.other (bel1 w6 (.cells (nc ⟨u1, u2, u3, u4, u5⟩ A5 k5.len c5) 25)))
  have M6 : Hid (LS X w (w6.alloc (.cells (nc ⟨u1, u2, u3, u4, u5⟩ A5 k5.len c5) 25)).drew b2 _ _ _ _) := M5.out.other ((Below.refl _ _).drew)
  obtain ⟨cs, o1, o2⟩ := M6.out.own
  have O1 := Lib.hid o1
  have O2 := Lib.hid o2
  have HS0 : (∀ o, w6.drew.cell? ⟨w5.heap.size, o, none⟩ = (nc ⟨u1, u2, u3, u4, u5⟩ A5 k5.len c5)[o]?) ∧ (∀ o, w6.drew.cell? ⟨w.heap.size + 1, o, none⟩ = (nc ⟨g1, g2, g3, g4, g5⟩ none 0 0)[o]?) := ⟨(L8.out.row 0 rfl).cell, (L8.out.row 1 rfl).cell⟩
  have HS1 : (∀ o, (w6.alloc (.cells (nc ⟨u1, u2, u3, u4, u5⟩ A5 k5.len c5) 25)).drew.cell? ⟨w5.heap.size, o, none⟩ = (nc ⟨u1, u2, u3, u4, u5⟩ A5 k5.len c5)[o]?) ∧ (∀ o, (w6.alloc (.cells (nc ⟨u1, u2, u3, u4, u5⟩ A5 k5.len c5) 25)).drew.cell? ⟨w.heap.size + 1, o, none⟩ = (nc ⟨g1, g2, g3, g4, g5⟩ none 0 0)[o]?) := ⟨(M6.out.row 0 rfl).cell, (M6.out.row 1 rfl).cell⟩
  obtain ⟨i0, hi0, hz0, hz1, hz2⟩ := info_parts info25
  have b3 : kf.len + 1 ≤ maxLen := by unfold maxLen; omega
  have b4 : (kf.len + 1) * 72 ≤ 140737488355328 := by omega
  have b5 := M6.out.size
  clear o1 o2
  go_wp2_with fail
  go_region_held3 (fun w' => (∀ o, w'.cell? ⟨w5.heap.size, o, none⟩ = (nc ⟨u1, u2, u3, u4, u5⟩ A5 k5.len c5)[o]?) ∧ (∀ o, w'.cell? ⟨w.heap.size + 1, o, none⟩ = (nc ⟨g1, g2, g3, g4, g5⟩ none 0 0)[o]?))
    (first
      | (with_reducible exact HSd)
      | (with_reducible exact HSc)
      | (with_reducible exact HSb)
      | (with_reducible exact HS1)
      | (with_reducible exact HS0))
    (first
      | (go_at_call 56; refine (ended_any ⟨g1, g2, g3, g4, g5⟩ none 0 0 p2 (some ⟨gg, 0, none⟩) (kf.len + 1) cap' _).mono ?_; rintro e w9 ⟨rfl, hb9⟩; have L9 := Lib.hid (M7.out.other hb9); have HSc := (And.intro (L9.out.row 0 rfl).cell (L9.out.row 1 rfl).cell); have L10 := Lib.hid (L9.out.put6 2 rfl rfl (.int .i64 g1) (.int .i64 g2) (.int .i64 p2) (.string g4) (.int .i64 g5) (.slice (some ⟨gg, 0, none⟩) (kf.len + 1) cap')); have HSd := (And.intro (L10.out.row 0 rfl).cell (L10.out.row 1 rfl).cell); have z1 := (L9.out.row 2 rfl).cell; have z2 := (L9.out.row 2 rfl).thaw)
      | (refine step_append_lies _ (by rfl) (.tmp 149) (.tmp 151) 23 (by rfl) w.heap.size 25 i0 _ 6 72 Try.underlying23 hi0 hz0 hz1 hz2 rfl (by omega) _ kf.len cs (by rfl) O1.out ⟨w6.heap.size, 0, none⟩ 1 1 [.int .i64 u1, .int .i64 u2, .int .i64 u3, .string u4, .int .i64 u5, .slice A5 k5.len c5] (by rfl) (by rfl) (fun j u hj => cells_nd w6 _ _ _ _ _ _ j u hj) (one_nd ⟨u1, u2, u3, u4, u5⟩ _ _ _) (by omega) b3 b4 b5 (w6.heap.size + 1) (by simp) ?_; intro gg cap' w7 hown3 hgrow hat hlt3; have M7 := Lib.hid (M6.out.push ⟨O1.out, O2.out⟩ (k := .one ⟨u1, u2, u3, u4, u5⟩ k5) (FC.one (M6.out.kidP 0 rfl)) hown3 hgrow (hat_of hat (by simp))); have HSb := (And.intro (M7.out.row 0 rfl).cell (M7.out.row 1 rfl).cell))
      | fail)
  go_wp2
  have hkl : (kf.app (.one ⟨u1, u2, u3, u4, u5⟩ k5)).len = kf.len + 1 := by rw [Fo.len_app]; rfl
  refine bodyPost_ret ?_ rfl ⟨⟨g1, g2, p2, g4, g5⟩, kf.app (.one ⟨u1, u2, u3, u4, u5⟩ k5), some ⟨gg, 0, none⟩, cap', rfl, rfl, L10.out.kv, L10.out.st, L10.out.fr, hl6⟩
  simp [results, Try.results99, go_sem, z1, hkl]
end Ps
end Go.Proofs.Ytnefnnoleeeedaa

/- Mathematics: what is wrong stays so; where a node begins; lists, one rule for all of them. -/
namespace Go.Proofs.Ytnefnnoleeeedaa
namespace Ps
variable {l : List Tok}

theorem wantM_bad {b : Int} {i : Nat} {x : List UInt8} (h : 0 ≤ b) : wantM l b i x = (i, b) := by unfold wantM; rw [if_pos h]
theorem wordM_bad {b : Int} {i : Nat} {hd : Hd} (h : 0 ≤ b) : wordM l b hd i = (hd, i, b) := by unfold wordM; rw [if_pos h]
theorem tyM_bad {f : Nat} {t : TT} {b : Int} {i : Nat} {r : Fo × Nat × Int} (hb : 0 ≤ b) (h : tyM l f t b i = some r) : r.2.2 = b := by
  have hb' : ¬ b < 0 := by omega
  cases f with
  | zero => rw [tyM] at h; cases h
  | succ f =>
    cases t with
    | kind => rw [tyM, if_pos hb] at h; injection h with h; rw [← h]
    | recL first => rw [tyM, if_neg (fun hh => hb' hh.1)] at h; injection h with h; rw [← h]
    | fnL first => rw [tyM, if_neg (fun hh => hb' hh.1)] at h; injection h with h; rw [← h]
theorem typedM_bad {f : Nat} {b : Int} {i : Nat} {r : Fo × Nat × Int} (hb : 0 ≤ b) (h : typedM l f b i = some r) : r.2.2 = b := by
  unfold typedM at h
  rw [if_pos (.inl hb)] at h
  injection h with h; rw [← h]
theorem parL_bad {f : Nat} {first : Bool} {b : Int} {i : Nat} {r : Fo × Nat × Int} (hb : 0 ≤ b) (h : parL l f first b i = some r) : r.2.2 = b := by
  have hb' : ¬ b < 0 := by omega
  cases f with
  | zero => rw [parL] at h; cases h
  | succ f => rw [parL, if_neg (fun hh => hb' hh.1)] at h; injection h with h; rw [← h]
theorem paramsM_bad {f : Nat} {b : Int} {i : Nat} {r : Fo × Nat × Int} (hb : 0 ≤ b) (h : paramsM l f b i = some r) : r.2.2 = b := by
  unfold paramsM at h
  dsimp only at h
  rw [wantM_bad hb] at h
  obtain ⟨x, h1, h2⟩ := Option.bind_eq_some_iff.1 h
  have h3 := parL_bad hb h1
  rw [wantM_bad (by omega)] at h2
  injection h2 with h2
  rw [← h2]; exact h3
/-- No rule turns what is wrong. -/
theorem exM_bad : ∀ (f : Nat) (t : XT) (b : Int) (i : Nat) (r : Fo × Nat × Int), 0 ≤ b → exM l f t b i = some r → r.2.2 = b := by
  intro f
  induction f with
  | zero => intro t b i r _ h; rw [exM] at h; cases h
  | succ f ih =>
    intro t b i r hb h
    have hb' : ¬ b < 0 := by omega
    cases t with
    | lambda =>
      rw [exM] at h
      obtain ⟨p, h1, h⟩ := Option.bind_eq_some_iff.1 h
      obtain ⟨t, h2, h⟩ := Option.bind_eq_some_iff.1 h
      obtain ⟨k, h3, h⟩ := Option.bind_eq_some_iff.1 h
      have e1 := paramsM_bad hb h1
      have e2 := typedM_bad (by omega) h2
      have e3 := ih _ _ _ _ (by omega) h3
      injection h with h; rw [← h]; dsimp only; omega
    | block =>
      rw [exM] at h
      dsimp only at h
      rw [wantM_bad hb] at h
      obtain ⟨x, h1, h⟩ := Option.bind_eq_some_iff.1 h
      have e1 := ih _ _ _ _ hb h1
      rw [wantM_bad (by omega)] at h
      injection h with h; rw [← h]; exact e1
    | stmts => rw [exM, if_neg (fun hh => hb' hh.1)] at h; injection h with h; rw [← h]
    | stmt =>
      rw [exM] at h
      split at h
      · obtain ⟨c, h1, h⟩ := Option.bind_eq_some_iff.1 h
        obtain ⟨k, h2, h⟩ := Option.bind_eq_some_iff.1 h
        have e1 := ih _ _ _ _ hb h1
        have e2 := ih _ _ _ _ (by omega) h2
        rw [if_neg (fun hh => by have := hh.1; omega)] at h
        injection h with h; rw [← h]; dsimp only; omega
      · split at h
        · obtain ⟨c, h1, h⟩ := Option.bind_eq_some_iff.1 h
          obtain ⟨k, h2, h⟩ := Option.bind_eq_some_iff.1 h
          have e1 := ih _ _ _ _ hb h1
          have e2 := ih _ _ _ _ (by omega) h2
          injection h with h; rw [← h]; dsimp only; omega
        · split at h
          · dsimp only at h
            rw [wordM_bad hb] at h
            obtain ⟨t, h1, h⟩ := Option.bind_eq_some_iff.1 h
            have e1 := typedM_bad hb h1
            rw [wantM_bad (by omega)] at h
            obtain ⟨v, h2, h⟩ := Option.bind_eq_some_iff.1 h
            have e2 := ih _ _ _ _ (by omega) h2
            rw [wantM_bad (by omega)] at h
            injection h with h; rw [← h]; dsimp only; omega
          · dsimp only at h
            rw [wordM_bad hb] at h
            obtain ⟨v, h2, h⟩ := Option.bind_eq_some_iff.1 h
            have key : ∀ (c1 c2 c3 : Prop) [Decidable c1] [Decidable c2] [Decidable c3] (u1 u2 u3 u4 : Hd × Nat), (if c1 then (u1.1, u1.2, b) else if c2 then (u2.1, u2.2, b) else if c3 then (u3.1, u3.2, b) else (u4.1, u4.2, b)).2.2 = b := by
              intro c1 c2 c3 _ _ _ u1 u2 u3 u4
              split
              · rfl
              · split
                · rfl
                · split <;> rfl
            have k1 := key (isM l i kPrint = true) (isM l i kReturn = true) (kindAt l i = 1 ∧ isM l (i + 1) sEq = true) (⟨11, i, 0, e0, 0⟩, i + 1) (⟨12, i, 0, e0, 0⟩, i + 1) (⟨8, i, 0, e0, 0⟩, i + 1) (⟨13, i, 0, e0, 0⟩, i)
            dsimp only at k1
            have e2 := ih _ _ _ _ (by rw [k1]; exact hb) h2
            rw [k1] at e2
            rw [wantM_bad (by omega)] at h
            injection h with h; rw [← h]; dsimp only; omega
    | expr =>
      rw [exM] at h
      obtain ⟨a, h1, h⟩ := Option.bind_eq_some_iff.1 h
      have e1 := ih _ _ _ _ hb h1
      rw [if_pos (.inl (by omega))] at h
      injection h with h; rw [← h]; exact e1
    | sum =>
      rw [exM] at h
      obtain ⟨a, h1, h⟩ := Option.bind_eq_some_iff.1 h
      have e1 := ih _ _ _ _ hb h1
      have e2 := ih _ _ _ _ (by omega) h
      omega
    | sumL a => rw [exM, if_neg (fun hh => hb' hh.1)] at h; injection h with h; rw [← h]
    | term =>
      rw [exM] at h
      obtain ⟨a, h1, h⟩ := Option.bind_eq_some_iff.1 h
      have e1 := ih _ _ _ _ hb h1
      have e2 := ih _ _ _ _ (by omega) h
      omega
    | termL a => rw [exM, if_neg (fun hh => hb' hh.1)] at h; injection h with h; rw [← h]
    | post =>
      rw [exM] at h
      obtain ⟨a, h1, h⟩ := Option.bind_eq_some_iff.1 h
      have e1 := ih _ _ _ _ hb h1
      have e2 := ih _ _ _ _ (by omega) h
      omega
    | postL a => rw [exM, if_neg (fun hh => hb' hh.1)] at h; injection h with h; rw [← h]
    | args first => rw [exM, if_neg (fun hh => hb' hh.1)] at h; injection h with h; rw [← h]
    | atom => rw [exM, if_pos hb] at h; injection h with h; rw [← h]
    | entries first => rw [exM, if_neg (fun hh => hb' hh.1)] at h; injection h with h; rw [← h]
/-! Lists. -/
abbrev RT := Nat → Int → Nat → Res
def listM (l : List Tok) (R : RT) (last : List UInt8) : Nat → Bool → Int → Nat → Res
  | 0, _, _, _ => none
  | f + 1, first, b, at_ =>
    if b < 0 ∧ ¬ (first = true ∧ isM l at_ last = true) then
      (R f b at_).bind fun t =>
        if 0 ≤ t.2.2 ∨ isM l t.2.1 last = true then some (t.1, t.2.1, t.2.2)
        else
          let y2 := wantM l t.2.2 t.2.1 sCom
          (listM l R last f false y2.2 y2.1).pre t.1
    else some (.nil, at_, b)
theorem args_list : ∀ (f : Nat) (first : Bool) (b : Int) (i : Nat), exM l f (.args first) b i = listM l (fun f => exM l f .expr) sParS f first b i
  | 0, _, _, _ => by rw [exM, listM]
  | f + 1, first, b, i => by
    rw [exM, listM]
    simp only [args_list f]
theorem fn_list : ∀ (f : Nat) (first : Bool) (b : Int) (i : Nat), tyM l f (.fnL first) b i = listM l (fun f => tyM l f .kind) sParS f first b i
  | 0, _, _, _ => by rw [tyM, listM]
  | f + 1, first, b, i => by
    rw [tyM, listM]
    simp only [fn_list f]
/-- What is left of a list behind one of it. -/
def restM (l : List Tok) (R : RT) (last : List UInt8) (f : Nat) (b : Int) (i : Nat) : Res :=
  if 0 ≤ b ∨ isM l i last = true then some (.nil, i, b)
  else listM l R last f false (wantM l b i sCom).2 (wantM l b i sCom).1
theorem isM_ne {i : Nat} {x y : List UInt8} (h : isM l i x = true) (hn : x ≠ y) : isM l i y = false := by
  unfold isM at h ⊢
  cases hl : l[i]? with
  | none => rfl
  | some t =>
    rw [hl] at h
    simp only [Bool.and_eq_true, beq_iff_eq] at h
    have : (t.text.data.toList == y) = false := by rw [beq_eq_false_iff_ne, h.2]; exact hn
    simp only [this, Bool.and_false]
end Ps
end Go.Proofs.Ytnefnnoleeeedaa

/- The program's reader in memory: its tokens, where it is, what is wrong. -/
namespace Go.Proofs.Ytnefnnoleeeedaa
open Go.RowKit
namespace Ps

/-- The texts that the grammar asks for. -/
def lits : List (List UInt8) := [kInt, kStr, kDyn, kFn, kUse, kDef, kIf, kElse, kWhile, kLet, kPrint, kReturn, kInput, sOpen, sShut, sParO, sParS, sCol, sCom, sSem, sDot, sEq, sEqEq, sLess, sPlus, sMinus, sStar]
structure Wf2 (l : List Tok) : Prop extends Wf l where
  conv : ∀ i (h : i < l.length), i + 1 < l.length → l[i].kind ≠ 0
  keys : ∀ i (h : i < l.length), l[i].kind ≠ 2 → l[i].kind ≠ 5 → i + 1 < l.length → ∀ x ∈ lits, l[i].text.data.toList ≠ x
theorem bel_put {B : Nat} {w w' : World} (h : Below B w w') (i : Nat) (u : Value) : Below B w (w'.setCell ⟨B, i, none⟩ u) := h.setCell (p := ⟨B, i, none⟩) (Nat.le_refl _) u
/-- Where a reader is, and what is wrong (less than 0: nothing). -/
abbrev Sd := Nat × Int
def lastI (X : Cx) : Nat := X.l.length - 1
def pos (X : Cx) (s : Sd) : Nat := if 0 ≤ s.2 then lastI X else s.1
def wrong (s : Sd) : Int := if 0 ≤ s.2 then s.2 else 0
def failS (s : Sd) : Sd := if 0 ≤ s.2 then s else (s.1, (s.1 : Int))
def tk (X : Cx) (s : Sd) (x : List UInt8) : Bool := decide (s.2 < 0) && isM X.l s.1 x
structure PSt (X : Cx) (w : World) (s : Sd) : Prop where
  row : RowB w X.rb 0 #[.slice X.A X.l.length X.c, .int .i64 (pos X s), .bool (decide (0 ≤ s.2)), .int .i64 (wrong s)]
  toks : ∃ g, X.A = some ⟨g, 0, none⟩ ∧ g < X.rb ∧ ∀ i (h : i < X.l.length),
    w.cell? ⟨g, i * 4, none⟩ = some (.int .i64 X.l[i].kind) ∧ w.cell? ⟨g, i * 4 + 1, none⟩ = some (.int .i64 X.l[i].at_) ∧ w.cell? ⟨g, i * 4 + 2, none⟩ = some (.string X.l[i].lead) ∧ w.cell? ⟨g, i * 4 + 3, none⟩ = some (.string X.l[i].text)
  wf : Wf2 X.l
  cap : X.l.length ≤ X.c
  ib : s.2 < 0 → s.1 < X.l.length
  bb : s.2 < X.l.length
variable {X : Cx} {w w' : World} {s s' : Sd}
theorem PSt.toks_below (h : PSt X w s) (hb : Below (X.rb) w w') : ∃ g, X.A = some ⟨g, 0, none⟩ ∧ g < X.rb ∧ ∀ i (h : i < X.l.length),
    w'.cell? ⟨g, i * 4, none⟩ = some (.int .i64 X.l[i].kind) ∧ w'.cell? ⟨g, i * 4 + 1, none⟩ = some (.int .i64 X.l[i].at_) ∧ w'.cell? ⟨g, i * 4 + 2, none⟩ = some (.string X.l[i].lead) ∧ w'.cell? ⟨g, i * 4 + 3, none⟩ = some (.string X.l[i].text) := by
  obtain ⟨g, e, hg, hc⟩ := h.toks
  refine ⟨g, e, hg, fun i hi => ?_⟩
  obtain ⟨c0, c1, c2, c3⟩ := hc i hi
  exact ⟨(hb.cell (p := ⟨g, i * 4, none⟩) hg).trans c0, (hb.cell (p := ⟨g, i * 4 + 1, none⟩) hg).trans c1, (hb.cell (p := ⟨g, i * 4 + 2, none⟩) hg).trans c2, (hb.cell (p := ⟨g, i * 4 + 3, none⟩) hg).trans c3⟩
theorem PSt.lt (h : PSt X w s) : X.rb < w.heap.size := h.row.lt
theorem PSt.below (h : PSt X w s) (hb : Below w.heap.size w w') : PSt X w' s :=
  ⟨h.row.below hb h.row.lt, h.toks_below (hb.mono (by have := h.row.lt; omega)), h.wf, h.cap, h.ib, h.bb⟩
theorem PSt.alloc (h : PSt X w s) (o : Obj) : PSt X (w.alloc o) s := h.below ((Below.refl _ _).alloc (Nat.le_refl _) o)
theorem PSt.far (h : PSt X w s) {p : Addr} (hp : X.rb < p.block) (u : Value) : PSt X (w.setCell p u) s :=
  ⟨h.row.far (by omega) u, h.toks_below ((Below.refl _ _).setCell (by omega) u), h.wf, h.cap, h.ib, h.bb⟩
theorem PSt.grown {row : Option Nat} (h : PSt X w s) (hg : w.grownBy w' row) (hr : ∀ k, row = some k → X.rb < k) : PSt X w' s := by
  have hl := h.row.lt
  have hb : Below (X.rb + 1) w w' := (Below.refl _ _).grown hg (by omega) (fun k hk => hr k hk)
  exact ⟨h.row.below hb (by omega), h.toks_below (hb.mono (by omega)), h.wf, h.cap, h.ib, h.bb⟩
theorem PSt.len (h : PSt X w s) : 0 < X.l.length ∧ X.l.length ≤ 4000 := ⟨h.wf.pos, h.wf.le⟩
theorem PSt.last (h : PSt X w s) : lastI X + 1 = X.l.length := by have := h.len; unfold lastI; omega
/-- One token on. -/
theorem PSt.go (h : PSt X w s) (hs : s.2 < 0) (hi : s.1 + 1 < X.l.length) : PSt X (w.setCell ⟨X.rb, 1, none⟩ (.int .i64 ((s.1 + 1 : Nat) : Int))) (s.1 + 1, s.2) := by
  have hr := h.row.put 1 (.int .i64 ((s.1 + 1 : Nat) : Int))
  refine ⟨?_, h.toks_below (bel_put (Below.refl _ _) _ _), h.wf, h.cap, fun _ => hi, h.bb⟩
  have e : pos X (s.1 + 1, s.2) = s.1 + 1 := by unfold pos; rw [if_neg (by dsimp only; omega)]
  rw [e]
  exact hr
/-- The reader can't go on. -/
theorem PSt.stop (h : PSt X w s) (hs : s.2 < 0) : PSt X (((w.setCell ⟨X.rb, 2, none⟩ (.bool true)).setCell ⟨X.rb, 3, none⟩ (.int .i64 (s.1 : Int))).setCell ⟨X.rb, 1, none⟩ (.int .i64 (lastI X : Int))) (failS s) := by
  have hr := ((h.row.put 2 (.bool true)).put 3 (.int .i64 (s.1 : Int))).put 1 (.int .i64 (lastI X : Int))
  have hf : failS s = (s.1, (s.1 : Int)) := by unfold failS; rw [if_neg (by omega)]
  have hi := h.ib hs
  refine ⟨?_, h.toks_below (bel_put (bel_put (bel_put (Below.refl _ _) _ _) _ _) _ _), h.wf, h.cap, fun hh => ?_, ?_⟩
  · rw [hf]
    have e : pos X (s.1, (s.1 : Int)) = lastI X := by unfold pos; rw [if_pos (by dsimp only; omega)]
    have e2 : wrong (s.1, (s.1 : Int)) = (s.1 : Int) := by unfold wrong; rw [if_pos (by dsimp only; omega)]
    have e3 : decide (0 ≤ ((s.1, (s.1 : Int)) : Sd).2) = true := decide_eq_true (by dsimp only; omega)
    rw [e, e2, e3]
    exact hr
  · rw [hf] at hh; dsimp only at hh; omega
  · rw [hf]; dsimp only; omega
theorem PSt.stay (h : PSt X w s) (hs : 0 ≤ s.2) : PSt X (w.setCell ⟨X.rb, 1, none⟩ (.int .i64 (lastI X : Int))) (failS s) := by
  have hr := h.row.put 1 (.int .i64 (lastI X : Int))
  have hf : failS s = s := by unfold failS; rw [if_pos hs]
  rw [hf]
  refine ⟨?_, h.toks_below (bel_put (Below.refl _ _) _ _), h.wf, h.cap, h.ib, h.bb⟩
  have e : pos X s = lastI X := by unfold pos; rw [if_pos hs]
  rw [e]
  exact hr
end Ps
end Go.Proofs.Ytnefnnoleeeedaa

/- What a call of the program's reader holds while it goes on: the reader, blocks of its own, nodes, a list of kids. -/
namespace Go.Proofs.Ytnefnnoleeeedaa
open Go.RowKit

namespace Pg
open Ps
abbrev Row := Nat × TypeId × Array Value
abbrev Kid := Fo × Option Addr × Nat
/-- Blocks that nodes may lie in: new ones, none of the rows, not the list that grows. -/
def PB (lo : Nat) (Rs : List Row) (v : Value) (g : Nat) : Prop := lo ≤ g ∧ (∀ p ∈ Rs, p.1 ≠ g) ∧ v.ownBlock ≠ some g
structure LS (X : Cx) (w0 w : World) (b : Sd) (Rs : List Row) (Ks : List Kid) (v : Value) (K : Fo) : Prop where
  st : PSt X w b
  fr : Fr X.rb w0.heap.size w0 w
  rows : ∀ p ∈ Rs, RowB w p.1 p.2.1 p.2.2 ∧ w0.heap.size ≤ p.1
  nd : (Rs.map Prod.fst).Nodup
  kvs : ∀ k ∈ Ks, KV w (PB w0.heap.size Rs v) k.1 k.2.1 k.2.2
  own : ∃ cs, w.ownsRow w0.heap.size 25 6 v K.len cs ∧ FC w (PB w0.heap.size Rs v) K cs
  ownr : ∀ p ∈ Rs, v.ownBlock ≠ some p.1
  rb : X.rb < w0.heap.size
variable {X : Cx} {w0 w w' : World} {b : Sd} {Rs : List Row} {Ks : List Kid} {v : Value} {K : Fo}
theorem LS.start (h : PSt X w b) : LS X w w b [] [] (.slice none 0 0) .nil :=
  ⟨h, Fr.refl _ _ _, (by simp), (by simp), (by simp), ⟨[], World.ownsRow_nil _ _ _ _, by rw [FC]⟩, (by simp), h.row.lt⟩
theorem LS.size (h : LS X w0 w b Rs Ks v K) : w0.heap.size ≤ w.heap.size := h.fr.size
/-- Behind what turns no block of this call's. -/
theorem LS.step (h : LS X w0 w b Rs Ks v K) {b' : Sd} (hS : PSt X w' b') (hF : Fr X.rb w.heap.size w w') : LS X w0 w' b' Rs Ks v K := by
  have hrb := h.rb
  have hb : ∀ g, PB w0.heap.size Rs v g → g < w.heap.size → w'.heap[g]? = w.heap[g]? ∧ PB w0.heap.size Rs v g := fun g hg hl => ⟨hF.block g hl (by have := hg.1; omega), hg⟩
  refine ⟨hS, h.fr.trans (hF.mono h.size), fun p hp => ?_, h.nd, fun k hk => (h.kvs k hk).keep hF.size hb, ?_, h.ownr, hrb⟩
  · obtain ⟨r1, r2⟩ := h.rows p hp
    exact ⟨hF.row r1 r1.lt (by omega), r2⟩
  · obtain ⟨cs, o1, o2⟩ := h.own
    exact ⟨cs, hF.own o1 hrb, o2.keep hF.size hb⟩
/-- Behind a block that is nobody's. -/
theorem LS.other (h : LS X w0 w b Rs Ks v K) (hb : Below w.heap.size w w') : LS X w0 w' b Rs Ks v K := h.step (h.st.below hb) (.of hb)
/-- A block of its own. -/
theorem LS.alloc (h : LS X w0 w b Rs Ks v K) (g0 : Nat) (hg0 : g0 = w.heap.size) (t : TypeId) (c : Array Value) : LS X w0 (w.alloc (.cells c t)) b ((g0, t, c) :: Rs) Ks v K := by
  subst hg0
  have h' := h.other (bel1 w (.cells c t))
  have hsz := h.size
  have hlt : ∀ p ∈ Rs, p.1 < w.heap.size := fun p hp => (h.rows p hp).1.lt
  have hP : ∀ g, PB w0.heap.size Rs v g → g < w.heap.size → PB w0.heap.size ((w.heap.size, t, c) :: Rs) v g := fun g hg hl => ⟨hg.1, fun p hp => by
    rcases List.mem_cons.1 hp with rfl | hp
    · exact Nat.ne_of_gt hl
    · exact hg.2.1 p hp, hg.2.2⟩
  have hbk : ∀ g, PB w0.heap.size Rs v g → g < w.heap.size → (w.alloc (.cells c t)).heap[g]? = w.heap[g]? ∧ PB w0.heap.size ((w.heap.size, t, c) :: Rs) v g := fun g hg hl => ⟨Below.heap_alloc _ _ _ hl, hP g hg hl⟩
  refine ⟨h'.st, h'.fr, fun p hp => ?_, ?_, fun k hk => (h.kvs k hk).keep (by simp) hbk, ?_, fun p hp => ?_, h.rb⟩
  · rcases List.mem_cons.1 hp with rfl | hp
    · exact ⟨RowB.new w t c, hsz⟩
    · exact h'.rows p hp
  · rw [List.map_cons, List.nodup_cons]
    refine ⟨fun hm => ?_, h.nd⟩
    obtain ⟨p, hp, e⟩ := List.mem_map.1 hm
    have := hlt p hp
    dsimp only at e
    omega
  · obtain ⟨cs, o1, o2⟩ := h.own
    exact ⟨cs, o1.alloc _, o2.keep (by simp) hbk⟩
  · rcases List.mem_cons.1 hp with rfl | hp
    · intro e
      obtain ⟨cs, o1, _⟩ := h.own
      have := (o1.lt _ e).2
      dsimp only at this
      omega
    · exact h.ownr p hp
/-- Nodes that are new. -/
theorem LS.kid (h : LS X w0 w b Rs Ks v K) {b' : Sd} (hS : PSt X w' b') (hF : Fr X.rb w.heap.size w w') {k : Fo} {A : Option Addr} {cap : Nat} (hk : KV w' (fun g => w.heap.size ≤ g) k A cap) : LS X w0 w' b' Rs ((k, A, cap) :: Ks) v K := by
  have h' := h.step hS hF
  have hsz := h.size
  refine ⟨h'.st, h'.fr, h'.rows, h'.nd, fun x hx => ?_, h'.own, h'.ownr, h'.rb⟩
  rcases List.mem_cons.1 hx with rfl | hx
  · refine hk.keep (Nat.le_refl _) (fun g hg _ => ⟨rfl, by omega, fun p hp e => ?_, fun e => ?_⟩)
    · have := (h.rows p hp).1.lt; omega
    · obtain ⟨cs, o1, _⟩ := h.own
      have := (o1.lt _ e).2
      omega
  · exact h'.kvs x hx
/-- Nodes laid beside one another in a new block. -/
theorem LS.slice (h : LS X w0 w b Rs Ks v K) (g0 : Nat) (hg0 : g0 = w.heap.size) {k : Fo} {cs : Array Value} (hf : FC w (PB w0.heap.size Rs v) k cs.toList) : LS X w0 (w.alloc (.cells cs 25)) b Rs ((k, some ⟨g0, 0, none⟩, k.len) :: Ks) v K := by
  subst hg0
  have h' := h.other (bel1 w (.cells cs 25))
  have hsz := h.size
  refine ⟨h'.st, h'.fr, h'.rows, h'.nd, fun x hx => ?_, h'.own, h'.ownr, h'.rb⟩
  rcases List.mem_cons.1 hx with rfl | hx
  · refine KV.new (RowB.new w 25 cs) (hf.keep (by simp) (fun g hg hl => ⟨Below.heap_alloc _ _ _ hl, hg⟩)) ⟨hsz, fun p hp e => ?_, fun e => ?_⟩
    · have := (h.rows p hp).1.lt; omega
    · obtain ⟨cs', o1, _⟩ := h.own
      have := (o1.lt _ e).2
      omega
  · exact h'.kvs x hx
/-- A store into a block of its own. -/
theorem LS.set (h : LS X w0 w b Rs Ks v K) (n : Nat) {g : Nat} {t : TypeId} {c : Array Value} (hn : Rs[n]? = some (g, t, c)) (i : Nat) (u : Value) : LS X w0 (w.setCell ⟨g, i, none⟩ u) b (Rs.set n (g, t, c.setIfInBounds i u)) Ks v K := by
  have hrb := h.rb
  obtain ⟨hlt, hg⟩ := List.getElem?_eq_some_iff.1 hn
  obtain ⟨r1, r2⟩ := h.rows (g, t, c) (by rw [← hg]; exact List.getElem_mem hlt)
  dsimp only at r1 r2
  have hfst : (Rs.set n (g, t, c.setIfInBounds i u)).map Prod.fst = Rs.map Prod.fst := by
    rw [List.map_set]
    apply List.ext_getElem (by simp)
    intro j h1 h2
    rw [List.getElem_set]
    split
    · rename_i e; subst e; simp [hg]
    · rfl
  have hmem : ∀ p ∈ Rs.set n (g, t, c.setIfInBounds i u), ∃ q ∈ Rs, q.1 = p.1 := fun p hp => by
    have : p.1 ∈ (Rs.set n (g, t, c.setIfInBounds i u)).map Prod.fst := List.mem_map_of_mem hp
    rw [hfst] at this
    exact List.mem_map.1 this
  have hgm : (g, t, c) ∈ Rs := by rw [← hg]; exact List.getElem_mem hlt
  have hP : ∀ g', PB w0.heap.size Rs v g' → g' < w.heap.size → (w.setCell ⟨g, i, none⟩ u).heap[g']? = w.heap[g']? ∧ PB w0.heap.size (Rs.set n (g, t, c.setIfInBounds i u)) v g' := fun g' hg' _ => by
    refine ⟨Below.heap_setCell _ _ _ _ (fun e => hg'.2.1 _ hgm e.symm), hg'.1, fun p hp => ?_, hg'.2.2⟩
    obtain ⟨q, hq, e⟩ := hmem p hp
    rw [← e]; exact hg'.2.1 q hq
  refine ⟨h.st.far (by dsimp only; omega) u, h.fr.setCell (by dsimp only; omega) u, fun p hp => ?_, by rw [hfst]; exact h.nd, fun k hk => (h.kvs k hk).keep (by simp [World.setCell]) hP, ?_, fun p hp => ?_, hrb⟩
  · obtain ⟨j, hj, rfl⟩ := List.getElem_of_mem hp
    have hj' : j < Rs.length := by simpa using hj
    rw [List.getElem_set]
    split
    · exact ⟨r1.put i u, r2⟩
    · rename_i ej
      obtain ⟨q1, q2⟩ := h.rows _ (List.getElem_mem hj')
      refine ⟨q1.far (fun e => ?_) u, q2⟩
      have hnd := List.pairwise_iff_getElem.1 h.nd
      dsimp only at e
      rcases Nat.lt_or_gt_of_ne ej with h1 | h1
      · have := hnd n j (by simpa using hlt) (by simpa using hj') h1
        simp [hg, e] at this
      · have := hnd j n (by simpa using hj') (by simpa using hlt) h1
        simp [hg, e] at this
  · obtain ⟨cs, o1, o2⟩ := h.own
    exact ⟨cs, ownsRow_setCell_other o1 (a := ⟨g, i, none⟩) (h.ownr _ hgm) u, o2.keep (by simp [World.setCell]) hP⟩
  · obtain ⟨q, hq, e⟩ := hmem p hp
    rw [← e]; exact h.ownr q hq
/-- A node is laid behind the others of the list. -/
theorem LS.push (h : LS X w0 w b Rs Ks v K) {v' : Value} {k : Fo} {news cs : List Value} (hc : w.ownsRow w0.heap.size 25 6 v K.len cs ∧ FC w (PB w0.heap.size Rs v) K cs) (hf : FC w (PB w0.heap.size Rs v) k news) (hown : w'.ownsRow w0.heap.size 25 6 v' (K.len + k.len) (cs ++ news)) (hg : w.grownBy w' v.ownBlock) (hat : ∀ j, v'.ownBlock = some j → v.ownBlock = some j ∨ w.heap.size ≤ j) : LS X w0 w' b Rs Ks v' (K.app k) := by
  have hrb := h.rb
  have hlt := hc.1.lt
  have hP : ∀ g, PB w0.heap.size Rs v g → g < w.heap.size → w'.heap[g]? = w.heap[g]? ∧ PB w0.heap.size Rs v' g := fun g hp hl => by
    refine ⟨hg.block g hl (fun e => hp.2.2 e.symm), hp.1, hp.2.1, fun e => ?_⟩
    rcases hat g e with e | e
    · exact hp.2.2 e
    · omega
  refine ⟨h.st.grown hg (fun j e => ?_), h.fr.grown hg h.size (fun j e => (hlt j e).1), fun p hp => ?_, h.nd, fun x hx => (h.kvs x hx).keep hg.size hP, ⟨cs ++ news, ?_, FC.app K cs (hc.2.keep hg.size hP) (hf.keep hg.size hP)⟩, fun p hp e => ?_, hrb⟩
  · have := (hlt j e).1; omega
  · obtain ⟨r1, r2⟩ := h.rows p hp
    exact ⟨r1.grown hg (fun e => h.ownr p hp e.symm), r2⟩
  · rw [Fo.len_app]; exact hown
  · rcases hat _ e with e | e
    · exact h.ownr p hp e
    · have := (h.rows p hp).1.lt
      omega
/-- The list, as nodes of one's own. -/
theorem LS.list (h : LS X w0 w b Rs Ks v K) : ∃ A cap, v = .slice A K.len cap ∧ K.len ≤ cap ∧ KV w (fun g => w0.heap.size ≤ g) K A cap := by
  obtain ⟨cs, o1, o2⟩ := h.own
  have hv : ∃ A cap, v = .slice A K.len cap ∧ K.len ≤ cap := by
    rcases o1.2 with ⟨rfl, e⟩ | ⟨g, cap, cur, rfl, _, _, hc, _⟩
    · exact ⟨none, 0, by rw [e], by omega⟩
    · exact ⟨_, cap, rfl, hc⟩
  obtain ⟨A, cap, rfl, hc⟩ := hv
  exact ⟨A, cap, rfl, hc, KV.of_own o1 rfl o2 (fun g hg => hg.1) (fun g hg _ => hg) hc⟩
theorem LS.listP (h : LS X w0 w b Rs Ks v K) : ∃ A cap, v = .slice A K.len cap ∧ K.len ≤ cap ∧ KV w (fun g => w0.heap.size ≤ g ∧ ∀ p ∈ Rs, p.1 ≠ g) K A cap := by
  obtain ⟨A, cap, rfl, hc, _⟩ := h.list
  obtain ⟨cs, o1, o2⟩ := h.own
  exact ⟨A, cap, rfl, hc, KV.of_own o1 rfl o2 (fun g hg => ⟨hg.1, hg.2.1⟩) (fun g hg e => ⟨hg, fun p hp e2 => h.ownr p hp (by rw [e2]; exact e)⟩) hc⟩
/-- A list begins anew. -/
theorem LS.fresh (h : LS X w0 w b Rs Ks v K) : LS X w0 w b Rs Ks (.slice none 0 0) .nil :=
  ⟨h.st, h.fr, h.rows, h.nd, fun k hk => (h.kvs k hk).keep (Nat.le_refl _) (fun g hg _ => ⟨rfl, hg.1, hg.2.1, by simp [Value.ownBlock]⟩), ⟨[], World.ownsRow_nil _ _ _ _, by rw [FC]⟩, fun p _ => by simp [Value.ownBlock], h.rb⟩
theorem LS.row (h : LS X w0 w b Rs Ks v K) (n : Nat) {g : Nat} {t : TypeId} {c : Array Value} (hn : Rs[n]? = some (g, t, c)) : RowB w g t c := by
  obtain ⟨hlt, hg⟩ := List.getElem?_eq_some_iff.1 hn
  exact (h.rows (g, t, c) (by rw [← hg]; exact List.getElem_mem hlt)).1
theorem LS.kidP (h : LS X w0 w b Rs Ks v K) (n : Nat) {k : Fo} {A : Option Addr} {cap : Nat} (hn : Ks[n]? = some (k, A, cap)) : KV w (PB w0.heap.size Rs v) k A cap := by
  obtain ⟨hlt, hg⟩ := List.getElem?_eq_some_iff.1 hn
  exact h.kvs (k, A, cap) (by rw [← hg]; exact List.getElem_mem hlt)
theorem LS.put6 (h : LS X w0 w b Rs Ks v K) (n : Nat) {g : Nat} {t : TypeId} {c : Array Value} (hn : Rs[n]? = some (g, t, c)) (hc : c.size = 6) (u0 u1 u2 u3 u4 u5 : Value) :
    LS X w0 ((((((w.setCell ⟨g, 0, none⟩ u0).setCell ⟨g, 1, none⟩ u1).setCell ⟨g, 2, none⟩ u2).setCell ⟨g, 3, none⟩ u3).setCell ⟨g, 4, none⟩ u4).setCell ⟨g, 5, none⟩ u5) b (Rs.set n (g, t, #[u0, u1, u2, u3, u4, u5])) Ks v K := by
  have hlt : n < Rs.length := (List.getElem?_eq_some_iff.1 hn).1
  have key : ∀ (l : List Row) (x : Row), l.length = Rs.length → (l.set n x)[n]? = some x := fun l x hl => by rw [List.getElem?_set_self (by omega)]
  have h1 := h.set n hn 0 u0
  have h2 := h1.set n (key _ _ (by simp)) 1 u1
  have h3 := h2.set n (key _ _ (by simp)) 2 u2
  have h4 := h3.set n (key _ _ (by simp)) 3 u3
  have h5 := h4.set n (key _ _ (by simp)) 4 u4
  have h6 := h5.set n (key _ _ (by simp)) 5 u5
  simp only [List.set_set] at h6
  rwa [six hc] at h6
/-- A list begins with nodes that are laid. -/
theorem LS.lit (h : LS X w0 w b Rs Ks v K) {k : Fo} {cs : Array Value} (hf : FC w (PB w0.heap.size Rs (.slice none 0 0)) k cs.toList) (g0 : Nat) (hg0 : g0 = w.heap.size) (hm : k.len ≤ maxLen) : LS X w0 (w.alloc (.cells cs 25)) b Rs Ks (.slice (some ⟨g0, 0, none⟩) k.len k.len) k := by
  subst hg0
  have h' := h.fresh.other (bel1 w (.cells cs 25))
  have hsz := h.size
  have hkl := hf.len
  have hbk : ∀ g, PB w0.heap.size Rs (.slice none 0 0) g → g < w.heap.size → (w.alloc (.cells cs 25)).heap[g]? = w.heap[g]? ∧ PB w0.heap.size Rs (.slice (some ⟨w.heap.size, 0, none⟩) k.len k.len) g := fun g hg hl => ⟨Below.heap_alloc _ _ _ hl, hg.1, hg.2.1, by simp [Value.ownBlock]; omega⟩
  refine ⟨h'.st, h'.fr, h'.rows, h'.nd, fun x hx => (h.fresh.kvs x hx).keep (by simp) hbk, ⟨cs.toList, ⟨by simpa using hkl, .inr ⟨w.heap.size, k.len, cs, rfl, hsz, heap_alloc_new w _, Nat.le_refl _, hm, by simpa using hkl, ?_⟩⟩, hf.keep (by simp) hbk⟩, fun p hp => ?_, h.rb⟩
  · rw [List.take_of_length_le (by rw [hkl]; exact Nat.le_refl _)]
  · have := (h.rows p hp).1.lt
    simp [Value.ownBlock]; omega
/-- A block that is asked for no more. -/
theorem LS.drop {p : Row} (h : LS X w0 w b (p :: Rs) Ks v K) : LS X w0 w b Rs Ks v K := by
  have hb : ∀ g, PB w0.heap.size (p :: Rs) v g → g < w.heap.size → w.heap[g]? = w.heap[g]? ∧ PB w0.heap.size Rs v g := fun g hg _ => ⟨rfl, hg.1, fun q hq => hg.2.1 q (List.mem_cons_of_mem _ hq), hg.2.2⟩
  obtain ⟨cs, o1, o2⟩ := h.own
  exact ⟨h.st, h.fr, fun q hq => h.rows q (List.mem_cons_of_mem _ hq), (List.nodup_cons.1 h.nd).2, fun k hk => (h.kvs k hk).keep (Nat.le_refl _) hb, ⟨cs, o1, o2.keep (Nat.le_refl _) hb⟩, fun q hq => h.ownr q (List.mem_cons_of_mem _ hq), h.rb⟩
theorem LS.noK (h : LS X w0 w b Rs Ks v K) : LS X w0 w b Rs [] v K :=
  ⟨h.st, h.fr, h.rows, h.nd, fun q hq => by simp at hq, h.own, h.ownr, h.rb⟩
theorem LS.kv {A : Option Addr} {cap n : Nat} (h : LS X w0 w b Rs Ks (.slice A n cap) K) : KV w (fun g => w0.heap.size ≤ g) K A cap := by
  obtain ⟨A', cap', e, hc, hk⟩ := h.list
  obtain ⟨e1, e2, e3⟩ := Value.slice.inj e
  rw [e1, e3]
  exact hk
theorem LS.K1 {k : Kid} (h : LS X w0 w b Rs (k :: Ks) v K) : LS X w0 w b Rs [k] v K :=
  ⟨h.st, h.fr, h.rows, h.nd, fun q hq => h.kvs q (by rw [List.mem_singleton.1 hq]; exact List.mem_cons_self), h.own, h.ownr, h.rb⟩
/-- The list becomes a node's kids. -/
theorem LS.toKid {A : Option Addr} {cap n : Nat} (h : LS X w0 w b Rs Ks (.slice A n cap) K) : LS X w0 w b Rs ((K, A, cap) :: Ks) (.slice none 0 0) .nil := by
  have hf := h.fresh
  obtain ⟨A', cap', e, hc, hk⟩ := h.listP
  obtain ⟨e1, e2, e3⟩ := Value.slice.inj e
  refine ⟨hf.st, hf.fr, hf.rows, hf.nd, fun x hx => ?_, hf.own, hf.ownr, hf.rb⟩
  rcases List.mem_cons.1 hx with rfl | hx
  · rw [← e1, ← e3] at hk
    exact hk.keep (Nat.le_refl _) (fun g hg _ => ⟨rfl, hg.1, hg.2, by simp [Value.ownBlock]⟩)
  · exact hf.kvs x hx
end Pg
end Go.Proofs.Ytnefnnoleeeedaa

/- Contracts: the program's reader: tokens taken, wanted; nodes. -/
namespace Go.Proofs.Ytnefnnoleeeedaa
open Go.RowKit
namespace Pg
open Ps

def wantS (X : Cx) (s : Sd) (x : List UInt8) : Sd := wantM X.l s.2 s.1 x
/-- The zero node. -/
abbrev nv0 : Value := .agg #[.int .i64 0, .int .i64 0, .int .i64 0, .string ⟨#[]⟩, .int .i64 0, .slice none 0 0]
abbrev nvv (h : Hd) (A : Option Addr) (n cap : Nat) : Value := .agg #[.int .i64 h.kind, .int .i64 h.fro, .int .i64 h.til, .string h.word, .int .i64 h.at_, .slice A n cap]
abbrev ncc (h : Hd) (A : Option Addr) (n cap : Nat) : Array Value := #[.int .i64 h.kind, .int .i64 h.fro, .int .i64 h.til, .string h.word, .int .i64 h.at_, .slice A n cap]

end Pg
end Go.Proofs.Ytnefnnoleeeedaa

/- Contracts: the program's reader: nodes. -/
namespace Go.Proofs.Ytnefnnoleeeedaa
open Go.RowKit
namespace Pg
open Ps

theorem below_put6 {B g : Nat} {w w' : World} (h : Below B w w') (hg : B ≤ g) (u0 u1 u2 u3 u4 u5 : Value) : Below B w ((((((w'.setCell ⟨g, 0, none⟩ u0).setCell ⟨g, 1, none⟩ u1).setCell ⟨g, 2, none⟩ u2).setCell ⟨g, 3, none⟩ u3).setCell ⟨g, 4, none⟩ u4).setCell ⟨g, 5, none⟩ u5) :=
  Below.setCell (p := ⟨g, 5, none⟩) (Below.setCell (p := ⟨g, 4, none⟩) (Below.setCell (p := ⟨g, 3, none⟩) (Below.setCell (p := ⟨g, 2, none⟩) (Below.setCell (p := ⟨g, 1, none⟩) (Below.setCell (p := ⟨g, 0, none⟩) h hg u0) hg u1) hg u2) hg u3) hg u4) hg u5
abbrev zcc : Array Value := #[.int .i64 0, .int .i64 0, .int .i64 0, .string ⟨#[]⟩, .int .i64 0, .slice none 0 0]

end Pg
end Go.Proofs.Ytnefnnoleeeedaa

/- Contracts: the program's reader: what a rule answers. -/
namespace Go.Proofs.Ytnefnnoleeeedaa
open Go.RowKit
namespace Pg
open Ps

/-- What a rule of the reader that answers a node comes to. -/
def NodeQ (X : Cx) (w : World) (r : Fo × Sd) (e : Ending) (w' : World) : Prop :=
  ∃ h k A cap, e = .returned (nvv h A k.len cap) ∧ KV w' (fun g => w.heap.size ≤ g) k A cap ∧ PSt X w' r.2 ∧ Fr X.rb w.heap.size w w' ∧ (r.2.2 < 0 → r.1 = .one h k)
/-- A rule: in good order, and only if P, what M says; else what was wrong stays so. -/
def RuleQ (X : Cx) (P : Prop) (M : Sd → Res) (fn : Nat) : Prop := ∀ (s : Sd) (w : World) (r : Fo × Sd), (s.2 < 0 → P ∧ M s = some r) → (0 ≤ s.2 → r.2.2 = s.2) → PSt X w s →
  Calls Try.prog fn #[X.p] w (NodeQ X w r)
theorem KV.two {w : World} {P : Nat → Prop} {h1 h2 : Hd} {k1 k2 : Fo} {A1 A2 : Option Addr} {c1 c2 : Nat} (a : KV w P k1 A1 c1) (b : KV w P k2 A2 c2) :
    FC w P ((Fo.one h1 k1).app (.one h2 k2)) (#[Value.int .i64 h1.kind, .int .i64 h1.fro, .int .i64 h1.til, .string h1.word, .int .i64 h1.at_, .slice A1 k1.len c1, .int .i64 h2.kind, .int .i64 h2.fro, .int .i64 h2.til, .string h2.word, .int .i64 h2.at_, .slice A2 k2.len c2] : Array Value).toList :=
  FC.app _ _ (FC.one a) (FC.one b)
theorem KV.three {w : World} {P : Nat → Prop} {h1 h2 h3 : Hd} {k1 k2 k3 : Fo} {A1 A2 A3 : Option Addr} {c1 c2 c3 : Nat} (a : KV w P k1 A1 c1) (b : KV w P k2 A2 c2) (c : KV w P k3 A3 c3) :
    FC w P ((Fo.one h1 k1).app ((Fo.one h2 k2).app (.one h3 k3))) (#[Value.int .i64 h1.kind, .int .i64 h1.fro, .int .i64 h1.til, .string h1.word, .int .i64 h1.at_, .slice A1 k1.len c1, .int .i64 h2.kind, .int .i64 h2.fro, .int .i64 h2.til, .string h2.word, .int .i64 h2.at_, .slice A2 k2.len c2, .int .i64 h3.kind, .int .i64 h3.fro, .int .i64 h3.til, .string h3.word, .int .i64 h3.at_, .slice A3 k3.len c3] : Array Value).toList :=
  FC.app _ _ (FC.one a) (FC.app _ _ (FC.one b) (FC.one c))
theorem PSt.to {X : Cx} {w : World} {s s' : Sd} (h : PSt X w s) (h1 : s.2 < 0 → s' = s) (h2 : 0 ≤ s.2 → s'.2 = s.2) : PSt X w s' := by
  by_cases hs : s.2 < 0
  · rw [h1 hs]; exact h
  · have hs' : 0 ≤ s.2 := by omega
    have e := h2 hs'
    have hs2 : 0 ≤ s'.2 := by rw [e]; exact hs'
    have e1 : pos X s' = pos X s := by unfold pos; rw [if_pos hs2, if_pos hs']
    have e2 : wrong s' = wrong s := by unfold wrong; rw [if_pos hs2, if_pos hs', e]
    refine ⟨?_, h.toks, h.wf, h.cap, fun hh => absurd hh (by omega), by rw [e]; exact h.bb⟩
    rw [e1, e2, e]
    exact h.row
end Pg
end Go.Proofs.Ytnefnnoleeeedaa

/- Contracts: the program's reader: lists. -/
namespace Go.Proofs.Ytnefnnoleeeedaa
open Go.RowKit
namespace Pg
open Ps

/-- What a list comes to: a row of its own. -/
def NodesQ (X : Cx) (n : Nat) (w : World) (r : Fo × Sd) (e : Ending) (w' : World) : Prop :=
  ∃ v K, e = .returned v ∧ (∃ cs, w'.ownsRow w.heap.size 25 6 v K.len cs ∧ FC w' (fun g => w.heap.size ≤ g ∧ v.ownBlock ≠ some g) K cs) ∧ PSt X w' r.2 ∧ Fr X.rb w.heap.size w w' ∧ (r.2.2 < 0 → r.1 = K) ∧ K.len ≤ n
/-- What is known at each round of a list. -/
def InvR (X : Cx) (P : Prop) (M : RT) (last : List UInt8) (r : Fo × Sd) (fk : Nat) (sk : Sd) (K : Fo) : Prop :=
  (sk.2 < 0 → P ∧ ∃ r', restM X.l M last fk sk.2 sk.1 = some r' ∧ r.1 = K.app r'.1 ∧ r.2 = wantM X.l r'.2.2 r'.2.1 last) ∧ (0 ≤ sk.2 → r.2.2 = sk.2)
theorem rest_bad {l : List Tok} {M : RT} {last : List UInt8} {f : Nat} {b : Int} {i : Nat} {r : Fo × Nat × Int} (h : restM l M last f b i = some r) (hb : 0 ≤ b) : r = (.nil, i, b) := by
  unfold restM at h
  rw [if_pos (.inl hb)] at h
  injection h with h; exact h.symm
theorem InvR.next {X : Cx} {P : Prop} {M : RT} {last : List UInt8} {r t r' r'' : Fo × Sd} {f' : Nat} {K : Fo} {h : Hd} {k : Fo} (hP : P) (h1 : restM X.l M last f' t.2.2 t.2.1 = some r'') (h2 : r' = (t.1.app r''.1, r''.2)) (h3 : r.1 = K.app r'.1) (h4 : r.2 = wantM X.l r'.2.2 r'.2.1 last) (hn : t.2.2 < 0 → t.1 = .one h k) :
    InvR X P M last r f' t.2 (K.app (.one h k)) := by
  refine ⟨fun hb => ⟨hP, r'', h1, ?_, ?_⟩, fun hb => ?_⟩
  · rw [h3, h2, hn hb, Fo.app_assoc]
  · rw [h4, h2]
  · have := rest_bad h1 hb
    rw [h4, h2, this]
    dsimp only
    rw [wantM_bad hb]

end Pg
end Go.Proofs.Ytnefnnoleeeedaa

/- Contracts: the program's reader: what has a word and a colon ahead. -/
namespace Go.Proofs.Ytnefnnoleeeedaa
open Go.RowKit
namespace Pg
open Ps

/-- What labelled's closure holds. -/
def LabI (X : Cx) (kd F b0 : Nat) (w : World) : Prop := X.rb < b0 ∧ RowB w b0 0 #[X.p] ∧ RowB w (b0 + 1) 3 #[.int .i64 kd] ∧ RowB w (b0 + 2) 88 #[.func (.func F) #[X.p] #[]]
theorem LabI.keep {X : Cx} {kd F b0 : Nat} {w w' : World} (h : LabI X kd F b0 w) (hf : Fr X.rb w.heap.size w w') : LabI X kd F b0 w' :=
  ⟨h.1, hf.row h.2.1 h.2.1.lt (by have := h.1; omega), hf.row h.2.2.1 h.2.2.1.lt (by have := h.1; omega), hf.row h.2.2.2 h.2.2.2.lt (by have := h.1; omega)⟩
theorem LabI.new {X : Cx} {kd F : Nat} {w : World} (hrb : X.rb < w.heap.size) : LabI X kd F w.heap.size (((w.alloc (.cells #[X.p] 0)).alloc (.cells #[.int .i64 kd] 3)).alloc (.cells #[.func (.func F) #[X.p] #[]] 88)) := by
  refine ⟨hrb, ((RowB.new w 0 #[X.p]).alloc _).alloc _, ?_, ?_⟩
  · have := (RowB.new (w.alloc (.cells #[X.p] 0)) 3 #[.int .i64 kd]).alloc (.cells #[.func (.func F) #[X.p] #[]] 88)
    simpa using this
  · have := RowB.new ((w.alloc (.cells #[X.p] 0)).alloc (.cells #[.int .i64 kd] 3)) 88 #[.func (.func F) #[X.p] #[]]
    simpa using this

end Pg
end Go.Proofs.Ytnefnnoleeeedaa

