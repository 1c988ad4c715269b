import Derived.Test.YtiabkkdeonepgaaGreatDoorXI
import Derived.Lib.QuietBelow
namespace Go.Proofs.YtiabkkdeonepgaaGreatDoor
open Go.RowKit
namespace Pg
open Ps
def HdE (pl : Bool) (h h' : Hd) : Prop := h.kind = h'.kind ∧ h.word = h'.word ∧ (pl = true → h.fro = h'.fro ∧ h.til = h'.til ∧ h.at_ = h'.at_)
def Eqv (pl : Bool) : Fo → Fo → Prop
  | .nil, .nil => True
  | .cons h k r, .cons h' k' r' => HdE pl h h' ∧ Eqv pl k k' ∧ Eqv pl r r'
  | _, _ => False
theorem Eqv.refl (pl : Bool) : ∀ k, Eqv pl k k
  | .nil => trivial
  | .cons _ k r => ⟨⟨rfl, rfl, fun _ => ⟨rfl, rfl, rfl⟩⟩, Eqv.refl pl k, Eqv.refl pl r⟩
theorem Eqv.len {pl : Bool} : ∀ {k k' : Fo}, Eqv pl k k' → k.len = k'.len
  | .nil, .nil, _ => rfl
  | .cons h k r, .cons h' k' r', hq => by rw [Fo.len, Fo.len, Eqv.len hq.2.2]
  | .nil, .cons _ _ _, hq => hq.elim
  | .cons _ _ _, .nil, hq => hq.elim
theorem Eqv.nth {pl : Bool} : ∀ {k k' : Fo} {i : Nat} {h : Hd} {kk r : Fo}, Eqv pl k k' → k.drop i = .cons h kk r → ∃ h' kk', k'.drop i = .cons h' kk' (k'.drop (i + 1)) ∧ HdE pl h h' ∧ Eqv pl kk kk'
  | .nil, _, i, h, kk, r, _, e => by cases i <;> simp [Fo.drop] at e
  | .cons _ _ _, .nil, _, _, _, _, hq, _ => hq.elim
  | .cons h1 k1 r1, .cons h2 k2 r2, 0, h, kk, r, hq, e => by
    rw [Fo.drop] at e
    injection e with e1 e2 e3
    subst e1 e2 e3
    exact ⟨h2, k2, by rw [Fo.drop, Fo.drop, Fo.drop_zero], hq.1, hq.2.1⟩
  | .cons h1 k1 r1, .cons h2 k2 r2, i + 1, h, kk, r, hq, e => by
    rw [Fo.drop] at e
    obtain ⟨h', kk', e1, e2, e3⟩ := Eqv.nth hq.2.2 e
    exact ⟨h', kk', by rw [Fo.drop, Fo.drop]; exact e1, e2, e3⟩
set_option maxHeartbeats 4000000 in
set_option maxRecDepth 100000 in
theorem same_false : ∀ (n : Nat) (h h' : Hd) (k k' : Fo) (A A' : Option Addr) (cap cap' : Nat) (P P' : Nat → Prop) (w : World), k.deep ≤ n → k.len ≤ 1000001 → k.wide ≤ 1000001 → HdE false h h' → Eqv false k k' → KV w P k A cap → KV w P' k' A' cap' →
    Calls Tryz.prog 8 #[nvv h A k.len cap, nvv h' A' k'.len cap', .bool false] w fun e w' => e = .returned (.bool true) ∧ Below w.heap.size w w' := by
  intro n
  induction n using Nat.strongRecOn with
  | _ n ih =>
  intro h h' k k' A A' cap cap' P P' w hd hl hw he hq hk hk'
  obtain ⟨x1, x2, x3, x4, x5⟩ := h
  obtain ⟨y1, y2, y3, y4, y5⟩ := h'
  obtain ⟨n0, hn0⟩ : ∃ n0, n0 = k.len := ⟨_, rfl⟩
  have hn1 : k'.len = n0 := by rw [hn0]; exact (Eqv.len hq).symm
  rw [hn1, ← hn0]
  rw [← hn0] at hl
  obtain ⟨p1, p2⟩ : x1 = y1 ∧ x4 = y4 := ⟨he.1, he.2.1⟩
  subst p1 p2
  have HK := Lib.hid hk
  have HK' := Lib.hid hk'
  have HQ := Lib.hid hq
  have HN := Lib.hid hn0
  have HD := Lib.hid hd
  have HW := Lib.hid hw
  have IH := Lib.hid ih
  have B0 := Lib.hid ((bel1 w (.cells (ncc ⟨x1, x2, x3, x4, x5⟩ A n0 cap) 25)).alloc (by simp) (.cells (ncc ⟨x1, y2, y3, x4, y5⟩ A' n0 cap') 25))
  have Ra : Hid (RowB ((w.alloc (.cells (ncc ⟨x1, x2, x3, x4, x5⟩ A n0 cap) 25)).alloc (.cells (ncc ⟨x1, y2, y3, x4, y5⟩ A' n0 cap') 25)) w.heap.size 25 (ncc ⟨x1, x2, x3, x4, x5⟩ A n0 cap)) := (RowB.new w 25 _).alloc _
  have Rb : Hid (RowB ((w.alloc (.cells (ncc ⟨x1, x2, x3, x4, x5⟩ A n0 cap) 25)).alloc (.cells (ncc ⟨x1, y2, y3, x4, y5⟩ A' n0 cap') 25)) (w.heap.size + 1) 25 (ncc ⟨x1, y2, y3, x4, y5⟩ A' n0 cap')) := by
    have := RowB.new (w.alloc (.cells (ncc ⟨x1, x2, x3, x4, x5⟩ A n0 cap) 25)) 25 (ncc ⟨x1, y2, y3, x4, y5⟩ A' n0 cap')
    unfold Hid
    simpa using this
  clear hk hk' hq hn0 hn1 hd hw ih he
  go_enter Tryz.func8, Tryz.ntmps8
  go_wp2_with fail
  go_loopg [7] (n0 + 1) (fun kx s7 wr => ∃ (i : Nat), s7 = .int .i64 i ∧ n0 - i ≤ kx ∧ i ≤ n0 ∧ Hid (Below w.heap.size w wr) ∧ Hid (RowB wr w.heap.size 25 (ncc ⟨x1, x2, x3, x4, x5⟩ A n0 cap)) ∧ Hid (RowB wr (w.heap.size + 1) 25 (ncc ⟨x1, y2, y3, x4, y5⟩ A' n0 cap')))
  case atStart => exact ⟨0, rfl, by omega, by omega, B0.out, Ra.out, Rb.out⟩
  case round =>
    obtain ⟨i, rfl, hkx, hin, HB, RA, RB⟩ := hrel
    clear B0 Ra Rb
    have ra := RA.out.cell
    have rb := RB.out.cell
    by_cases hi : i < n0
    · have hil : (i : Int) < (n0 : Int) := by omega
      have hil2 : decide ((i : Int) < (n0 : Int)) = true := decide_eq_true hil
      obtain ⟨h1, kk, e⟩ := Fo.drop_cons k i (by rw [← HN.out]; exact hi)
      obtain ⟨h2, kk', e', he, hq⟩ := Eqv.nth HQ.out e
      obtain ⟨g, o, A2, c2, rfl, hP, hg, hkk, a0, a1, a2, a3, a4, a5⟩ := KV.nth (HK.out.below HB.out) e
      obtain ⟨g', o', A3, c3, rfl, hP', hg', hkk', b0, b1, b2, b3, b4, b5⟩ := KV.nth (HK'.out.below HB.out) e'
      obtain ⟨d1, d2, d3⟩ := Fo.drop_bounds k i _ _ _ e
      obtain ⟨j, hj⟩ : ∃ j, j = i + 1 := ⟨_, rfl⟩
      have e1 : IntKind.i64.wrap ((i : Int) + 1) = (j : Int) := by rw [IntKind.wrap_i64]; omega
      have CC : Hid (∀ w', Below wr.heap.size wr w' → Calls Tryz.prog 8 #[nvv h1 A2 kk.len c2, nvv h2 A3 kk'.len c3, .bool false] w' fun e w'' => e = .returned (.bool true) ∧ Below w'.heap.size w' w'') := fun w' hb =>
        IH.out kk.deep (by have := HD.out; omega) h1 h2 kk kk' A2 A3 c2 c3 P P' w' (Nat.le_refl _) (by have := HW.out; omega) (by have := HW.out; omega) he hq (hkk.below hb) (hkk'.below hb)
      have zra := fun d os => cell_regrown (RA.out.cell 5) d os
      have zrb := fun d os => cell_regrown (RB.out.cell 5) d os
      have z0 := fun d os => cell_regrown a0 d os
      have z1 := fun d os => cell_regrown a1 d os
      have z2 := fun d os => cell_regrown a2 d os
      have z3 := fun d os => cell_regrown a3 d os
      have z4 := fun d os => cell_regrown a4 d os
      have z5 := fun d os => cell_regrown a5 d os
      have v0 := fun d os => cell_regrown b0 d os
      have v1 := fun d os => cell_regrown b1 d os
      have v2 := fun d os => cell_regrown b2 d os
      have v3 := fun d os => cell_regrown b3 d os
      have v4 := fun d os => cell_regrown b4 d os
      have v5 := fun d os => cell_regrown b5 d os
      have HJ := Lib.hid hj
      have hbd : Hid (∀ d os, Below wr.heap.size wr (Go.Sort.grow (redrawn wr d) os)) := fun d os => below_regrown wr d os
      clear e e' he hq hkk hkk' d1 d2 d3 hj a0 a1 a2 a3 a4 a5 b0 b1 b2 b3 b4 b5 hP hP' hg hg'
      go_wp2_with fail
      refine wp_region_quiet_below (by kernel_rfl) (by kernel_rfl) ?_
      repeat (go_big_quiet_step (first
        | (go_at_call 8; exact Calls.regrown_of (CC.out _ (hbd.out _ _)))))
      refine wpQuiet_nil ?_
      intro _ hw'
      obtain ⟨⟨dq, osq⟩, hw''⟩ := hw'
      subst hw''
      have X1 := Lib.hid (RA.out.below (below_regrown wr dq osq) RA.out.lt)
      have X2 := Lib.hid (RB.out.below (below_regrown wr dq osq) RB.out.lt)
      have HX := Lib.hid (HB.out.trans ((below_regrown wr dq osq).mono HB.out.size))
      generalize Go.Sort.grow (redrawn wr dq) osq = WX at *
      clear CC hbd zra zrb z0 z1 z2 z3 z4 z5 v0 v1 v2 v3 v4 v5 ra rb
      go_wp2_with fail
      have hj := HJ.out
      go_roundg (n0 - j)
      case measure => omega
      case rel => exact ⟨j, (by first | rfl | rw [show (j : Int) = (i : Int) + 1 by omega]), by omega, by omega, HX.out, X1.out, X2.out⟩
    · have hd1 : decide ((i : Int) < (n0 : Int)) = false := decide_eq_false (by omega)
      have hd2 : decide (i < n0) = false := decide_eq_false (by omega)
      clear hi
      go_wp2_with fail
      go_ret
      exact ⟨rfl, HB.out⟩
end Pg
end Go.Proofs.YtiabkkdeonepgaaGreatDoor
