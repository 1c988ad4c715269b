/- Contracts: parse.Type: what it answers to any text. -/
import Derived.Test.YthlkjfkgdijfdaaGreatDoorXK
namespace Go.Proofs.YthlkjfkgdijfdaaGreatDoor
open Go.RowKit
namespace Pg
open Ps
/-- What Type answers. -/
inductive TypR where
  | ok (h : Hd) (k : Fo)
  | bad (e : Int)
def typeM (s : ByteArray) : TypR := match lexR s with
  | .bad e _ => .bad e
  | .good l => match ptypeM l with
    | .ok h k => .ok h k
    | .bad e _ => .bad (e : Int)
def TypQ (w : World) (o : TypR) (e : Ending) (w' : World) : Prop :=
  Below w.heap.size w w' ∧ match o with
    | .ok h k => ∃ A c, e = .returned (.tuple #[nvv h A k.len c, .int .i64 0]) ∧ KV w' (fun g => w.heap.size ≤ g) k A c
    | .bad er => e = .returned (.tuple #[nv0, .int .i64 er])

set_option maxHeartbeats 4000000 in
set_option maxRecDepth 100000 in
theorem type_any (s : ByteArray) (hs : (s.size : Int) ≤ 9223372036854775807) (w : World) (hT : Tabs w) (hE : Errs w) : Calls Tryz.prog 12 #[.string s] w (TypQ w (typeM s)) := by
  have R0 := Lib.hid (RowB.new w 25 zcc)
  have B0 := Lib.hid (bel1 w (.cells zcc 25))
  have CL := lext_any s hs (w.alloc (.cells zcc 25)) (Tabs.step hT B0.out) (hE.below B0.out)
  obtain ⟨o, hof⟩ : ∃ o, o = typeM s := ⟨_, rfl⟩
  rw [← hof]
  unfold typeM at hof
  unfold Lext at CL
  cases hx : lexR s with
  | bad er a =>
    rw [hx] at CL hof
    dsimp only at hof
    subst hof
    have CL := Lib.hid CL
    have hne := lexR_bad hx
    have h1 : (er == 0) = false := by rw [beq_eq_false_iff_ne]; exact hne
    have h2 : (er != 0) = true := by rw [bne_iff_ne]; exact hne
    clear hx hT hE
    go_enter Tryz.func12, Tryz.ntmps12
    go_wp2_with fail
    refine CL.out.mono ?_
    rintro e w1 ⟨hb, rfl⟩
    have B1 := Lib.hid (B0.out.trans (hb.mono (by simp)))
    have R1 := R0.out.below hb (by simp)
    have r1 := R1.cell
    have r2 := R1.thaw
    clear hb CL R1 R0 B0
    go_wp2
    refine bodyPost_ret (v := .tuple #[nv0, .int .i64 er]) ?_ rfl ⟨below_put6 B1.out (Nat.le_refl _) _ _ _ _ _ _, rfl⟩
    simp [results, Tryz.results12, go_sem, r1]
    try first | rfl | exact ⟨rfl, rfl⟩
  | good l =>
    rw [hx] at CL hof
    have CL := Lib.hid CL
    have HOF := Lib.hid hof
    have HX := Lib.hid hx
    clear hx hT hE hof
    go_enter Tryz.func12, Tryz.ntmps12
    go_wp2_with fail
    refine CL.out.mono ?_
    rintro e w1 ⟨hb, A, c, rfl, hTA, hle, hc⟩
    have W := lexR_wf HX.out hle
    have hpos := W.pos
    have hcc := hc hpos
    have hbs := hb.size
    have B1 := B0.out.trans (hb.mono (by simp))
    have R1 := Lib.hid ((R0.out.below hb (by simp)).alloc (.cells #[.slice A l.length c, .int .i64 0, .bool false, .int .i64 0] 56))
    have B2 := Lib.hid (B1.alloc B1.size (.cells #[.slice A l.length c, .int .i64 0, .bool false, .int .i64 0] 56))
    obtain ⟨q, hq, _⟩ := ty_some W.toWf
    have hpm : ptypeM l = wholeM l q := by unfold ptypeM; rw [hq]
    have hd := ty_deep' hq
    have hw := ty_wide' hq
    have R2 := RowB.new w1 56 #[.slice A l.length c, .int .i64 0, .bool false, .int .i64 0]
    have bz := bel1 w1 (.cells #[.slice A l.length c, .int .i64 0, .bool false, .int .i64 0] 56)
    have PS := PSt.new (B := w1.heap.size) hTA W hcc (Nat.le_refl _) bz R2
    have CW := Lib.hid (whole_q ⟨w1.heap.size, A, l, c⟩ (tyR ⟨w1.heap.size, A, l, c⟩ fuel) 23 (fun w => enter23 _ w) (ty_all _ fuel (by unfold fuel; omega)) _ q (by
      show tyM l fuel .kind (-1) 0 = _
      exact hq) (fun _ => ⟨hd, by omega⟩) PS)
    have HO : Hid (o = match wholeM l q with
      | .ok h k => .ok h k
      | .bad e _ => .bad (e : Int)) := by
      unfold Hid
      rw [HOF.out, ← hpm]
    have hsz : w.heap.size < w1.heap.size := by simp at hbs; omega
    clear hb hbs CL R0 B0 hTA hc HX R2 bz PS hq hpm hd hw W HOF B1
    generalize wholeM l q = oo at *
    go_wp2_with fail
    refine CW.out.mono ?_
    rintro e w3 ⟨hF, ho⟩
    have B3 := Lib.hid (B2.out.trans (Fr.below hF (B' := w.heap.size) (by simp; omega) (by dsimp only; omega)))
    have R3 := Lib.hid (hF.row R1.out (by simp; omega) (by dsimp only; omega))
    have hs3 : w1.heap.size < w3.heap.size := by have := hF.size; simp at this; omega
    clear B2 CW R1
    cases oo with
    | ok h k =>
      obtain ⟨A1, c1, rfl, hk⟩ := ho
      have HK : Hid (KV w3 (fun g => w1.heap.size + 1 ≤ g) k A1 c1) := hk.keep (Nat.le_refl _) (fun g hg _ => ⟨rfl, by simp at hg; omega⟩)
      obtain ⟨x1, x2, x3, x4, x5⟩ := h
      have HO' : Hid (o = .ok ⟨x1, x2, x3, x4, x5⟩ k) := HO.out
      clear hk hF HO
      have bz := bel1 w3 (.cells (ncc ⟨x1, x2, x3, x4, x5⟩ A1 k.len c1) 25)
      have B4 := Lib.hid (B3.out.alloc B3.out.size (.cells (ncc ⟨x1, x2, x3, x4, x5⟩ A1 k.len c1) 25))
      have R4 := Lib.hid (R3.out.below bz R3.out.lt)
      have Q4 := RowB.new w3 25 (ncc ⟨x1, x2, x3, x4, x5⟩ A1 k.len c1)
      have K4 := Lib.hid (HK.out.below bz)
      have r1 := R4.out.cell
      have r2 := R4.out.thaw
      have r3 := Q4.cell
      clear HK R3 B3 bz Q4
      go_wp2
      refine bodyPost_ret (v := .tuple #[nvv ⟨x1, x2, x3, x4, x5⟩ A1 k.len c1, .int .i64 0]) ?_ rfl ⟨below_put6 B4.out (Nat.le_refl _) _ _ _ _ _ _, by rw [HO'.out]; exact ⟨A1, c1, rfl, K4.out.keep (by simp [World.setCell]) (fun g hg _ => ⟨by iterate 6 rw [Below.heap_setCell _ _ _ _ (by dsimp only; omega)], by omega⟩)⟩⟩
      simp [results, Tryz.results12, go_sem, r1]
      try first | rfl | exact ⟨rfl, rfl⟩
    | bad er a =>
      obtain ⟨rfl, hal⟩ := ho
      have HO' : Hid (o = .bad (er : Int)) := HO.out
      clear hF HO
      have bz := bel1 w3 (.cells zcc 25)
      have B4 := Lib.hid (B3.out.alloc B3.out.size (.cells zcc 25))
      have R4 := Lib.hid (R3.out.below bz R3.out.lt)
      have Q4 := RowB.new w3 25 zcc
      have r1 := R4.out.cell
      have r2 := R4.out.thaw
      have r3 := Q4.cell
      clear R3 B3 bz Q4
      go_wp2
      refine bodyPost_ret (v := .tuple #[nv0, .int .i64 er]) ?_ rfl ⟨below_put6 B4.out (Nat.le_refl _) _ _ _ _ _ _, by rw [HO'.out]⟩
      simp [results, Tryz.results12, go_sem, r1]
      try first | rfl | exact ⟨rfl, rfl⟩
end Pg
end Go.Proofs.YthlkjfkgdijfdaaGreatDoor
