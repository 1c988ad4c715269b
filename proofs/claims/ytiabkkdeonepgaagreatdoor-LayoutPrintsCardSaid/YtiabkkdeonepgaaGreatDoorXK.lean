import Derived.Test.YtiabkkdeonepgaaGreatDoorXJ
import Derived.Test.YtiabkkdeonepgaaGreatDoorHD
import Derived.Test.YtiabkkdeonepgaaGreatDoorXC
import Derived.RegionTactic
namespace Go.Proofs.YtiabkkdeonepgaaGreatDoor
open Go.RowKit
namespace Pg
open Ps
inductive OfR where
  | ok (l : List Tok) (h : Hd) (k : Fo)
  | bad (e a : Int)
def atOf (l : List Tok) (a : Nat) : Nat := ((l[a]?).map Tok.at_).getD 0
def ofM (s : ByteArray) : OfR := match lexR s with
  | .bad e a => .bad e a
  | .good l => match parseM l with
    | .ok h k => .ok l h k
    | .bad e a => .bad e (atOf l a : Int)
def OfQ (w : World) (o : OfR) (e : Ending) (w' : World) : Prop :=
  Below w.heap.size w w' ∧ match o with
    | .ok l h k => ∃ A c A' c', e = .returned (.tuple #[.slice A l.length c, nvv h A' k.len c', .int .i64 0, .int .i64 0]) ∧ TokAt w' A l ∧ l.length ≤ c ∧ KV w' (fun g => w.heap.size ≤ g) k A' c'
    | .bad er a => e = .returned (.tuple #[.slice none 0 0, nv0, .int .i64 er, .int .i64 a])
theorem whole_bad {l : List Tok} {h : Hd} {k : Fo} {s : Sd} {e a : Nat} (hx : wholeM l (.one h k, s) = .bad e a) : e = 24 ∨ e = 25 := by
  unfold wholeM at hx
  split at hx
  · cases hx; exact .inl rfl
  · split at hx
    · cases hx; exact .inl rfl
    · simp only [Fo.one] at hx
      split at hx
      · cases hx; exact .inr rfl
      · cases hx
theorem parse_bad {l : List Tok} (W : Wf2 l) {e a : Nat} (h : parseM l = .bad e a) : e = 24 ∨ e = 25 := by
  obtain ⟨q, hq, _⟩ := items_some W.toWf
  unfold parseM at h
  rw [hq] at h
  exact whole_bad h
theorem frame6 (w : World) (g : Nat) (u0 u1 u2 u3 u4 u5 : Value) (o : Obj) : Fr g w.heap.size w (((((((w.setCell ⟨g, 0, none⟩ u0).setCell ⟨g, 1, none⟩ u1).setCell ⟨g, 2, none⟩ u2).setCell ⟨g, 3, none⟩ u3).setCell ⟨g, 4, none⟩ u4).setCell ⟨g, 5, none⟩ u5).alloc o).drew :=
  (((((((((Fr.refl g w.heap.size w).put 0 u0).put 1 u1).put 2 u2).put 3 u3).put 4 u4).put 5 u5).alloc (by simp [World.setCell]) o).trans (Fr.of (Below.refl _ _).drew))
theorem row6 {w : World} {g : Nat} {cs : Array Value} (h : RowB w g 25 cs) (hc : cs.size = 6) (u0 u1 u2 u3 u4 u5 : Value) (o : Obj) : ∀ i, (((((((w.setCell ⟨g, 0, none⟩ u0).setCell ⟨g, 1, none⟩ u1).setCell ⟨g, 2, none⟩ u2).setCell ⟨g, 3, none⟩ u3).setCell ⟨g, 4, none⟩ u4).setCell ⟨g, 5, none⟩ u5).alloc o).cell? ⟨g, i, none⟩ = #[u0, u1, u2, u3, u4, u5][i]? := by
  have := ((((((h.put 0 u0).put 1 u1).put 2 u2).put 3 u3).put 4 u4).put 5 u5).alloc o
  rw [six hc] at this
  exact this.cell
theorem TokAt.frame {w w' : World} {A : Option Addr} {l : List Tok} {rb : Nat} (h : TokAt w A l) (hF : Fr rb w.heap.size w w') (hne : ∀ g, A = some ⟨g, 0, none⟩ → g ≠ rb) : TokAt w' A l := fun hn => by
  obtain ⟨g, e, hg, ht⟩ := h hn
  have hr := hne g e
  have := hF.size
  refine ⟨g, e, by omega, fun i hi => ?_⟩
  obtain ⟨c0, c1, c2, c3⟩ := ht i hi
  exact ⟨(hF.cell (p := ⟨g, i * 4, none⟩) hg hr).trans c0, (hF.cell (p := ⟨g, i * 4 + 1, none⟩) hg hr).trans c1, (hF.cell (p := ⟨g, i * 4 + 2, none⟩) hg hr).trans c2, (hF.cell (p := ⟨g, i * 4 + 3, none⟩) hg hr).trans c3⟩
set_option maxHeartbeats 1000000 in
set_option maxRecDepth 100000 in
theorem of_any (s : ByteArray) (hs : (s.size : Int) ≤ 9223372036854775807) (w : World) (hT : Tabs w) (hE : Errs w) : Calls Tryz.prog 12 #[.string s] w (OfQ w (ofM s)) := by
  have R0 := Lib.hid (RowB.new w 25 zcc)
  have B0 := Lib.hid (bel1 w (.cells zcc 25))
  have CL := lext_any s hs (w.alloc (.cells zcc 25)) (Tabs.step hT B0.out) (hE.below B0.out)
  obtain ⟨o, hof⟩ : ∃ o, o = ofM s := ⟨_, rfl⟩
  rw [← hof]
  unfold ofM at hof
  unfold Lext at CL
  cases hx : lexR s with
  | bad er a =>
    rw [hx] at CL hof
    dsimp only at hof
    subst hof
    have CL := Lib.hid CL
    have hne := lexR_bad hx
    have h1 : (er == 0) = false := by rw [beq_eq_false_iff_ne]; exact hne
    have h2 : (er != 0) = true := by rw [bne_iff_ne]; exact hne
    clear hx hT hE
    go_enter Tryz.func12, Tryz.ntmps12
    go_wp2_with fail
    refine CL.out.mono ?_
    rintro e w1 ⟨hb, rfl⟩
    have B1 := Lib.hid (B0.out.trans (hb.mono (by simp)))
    have R1 := R0.out.below hb (by simp)
    have r1 := R1.cell
    have r2 := R1.thaw
    clear hb CL R1 R0 B0
    go_wp2
    refine bodyPost_ret (v := .tuple #[.slice none 0 0, nv0, .int .i64 er, .int .i64 a]) ?_ rfl ⟨below_put6 B1.out (Nat.le_refl _) _ _ _ _ _ _, rfl⟩
    simp [results, Tryz.results12, go_sem, r1]
    try first | rfl | exact ⟨rfl, rfl⟩
  | good l =>
    rw [hx] at CL hof
    have CL := Lib.hid CL
    have HOF := Lib.hid hof
    have HX := Lib.hid hx
    clear hx hT hE hof
    go_enter Tryz.func12, Tryz.ntmps12
    go_wp2_with fail
    refine CL.out.mono ?_
    rintro e w1 ⟨hb, A, c, rfl, hTA, hle, hc⟩
    have W := lexR_wf HX.out hle
    have HW := Lib.hid W
    have hpos := W.pos
    have hcc := hc hpos
    have B1 := Lib.hid (B0.out.trans (hb.mono (by simp)))
    have R1 := Lib.hid (R0.out.below hb (by simp))
    have HTA := Lib.hid hTA
    have CP := Lib.hid (parse_any l A c w1 hTA W hcc)
    have hsz : w.heap.size < w1.heap.size := by have := hb.size; simp at this; omega
    have HNE : Hid (∀ g, A = some ⟨g, 0, none⟩ → g ≠ w.heap.size) := fun g eg e => by
      obtain ⟨g', eg', _, ht⟩ := hTA hpos
      rw [eg] at eg'
      injection eg' with eg'
      injection eg' with eg'
      have h1 := (ht 0 hpos).2.2.1
      rw [← eg', e] at h1
      have h2 := R1.out.cell 2
      rw [show 0 * 4 + 2 = 2 from rfl, h2] at h1
      simp at h1
    clear hb CL R0 B0 hTA hc W HX
    go_wp2_with fail
    refine CP.out.mono ?_
    rintro e w2 ⟨hb, ho⟩
    have B2 := Lib.hid (B1.out.trans (hb.mono (by omega)))
    have R2 := Lib.hid (R1.out.below hb (by omega))
    have HTB := Lib.hid (HTA.out.below hb)
    have hsz2 : w.heap.size < w2.heap.size := by have := hb.size; omega
    clear hb CP R1 B1
    cases hp : parseM l with
    | bad er a =>
      rw [hp] at ho
      obtain ⟨rfl, hal⟩ := ho
      have her := parse_bad HW.out hp
      have HO : Hid (o = .bad er (atOf l a : Int)) := by
        unfold Hid
        rw [HOF.out, hp]
      have h1 : ((er : Int) == 0) = false := by rw [beq_eq_false_iff_ne]; omega
      have h2 : ((er : Int) != 0) = true := by rw [bne_iff_ne]; omega
      obtain ⟨g, eg, hg, ht⟩ := HTB.out hpos
      obtain ⟨_, c1, _, _⟩ := ht a hal
      have hat : atOf l a = l[a].at_ := by unfold atOf; rw [List.getElem?_eq_getElem hal]; rfl
      rw [← hat] at c1
      have hali : (a : Int) < (l.length : Int) := by omega
      have r1 := R2.out.cell
      have r2 := R2.out.thaw
      generalize atOf l a = at1 at *
      have hne := HNE.out g eg
      have hne2 : w.heap.size ≠ g := fun e => hne e.symm
      subst eg
      clear hp her ht hat HTA HTB
      go_wp2_with fail
      go_region
      all_goals
        go_wp2
        refine bodyPost_ret (v := .tuple #[.slice none 0 0, nv0, .int .i64 er, .int .i64 at1]) ?_ rfl ⟨((below_put6 B2.out (Nat.le_refl _) _ _ _ _ _ _).alloc (by simp [World.setCell]; omega) _).drew, by rw [HO.out]⟩
        have r7 := row6 R2.out rfl (.int .i64 0) (.int .i64 0) (.int .i64 0) (.string ⟨#[]⟩) (.int .i64 0) (.slice none 0 0) (.cells #[.int .i64 0, .int .i64 0, .int .i64 0, .string ⟨#[]⟩, .int .i64 0, .slice none 0 0] 25)
        simp [results, Tryz.results12, go_sem, r7]
    | ok h k =>
      rw [hp] at ho
      obtain ⟨A1, c1, rfl, hk⟩ := ho
      obtain ⟨x1, x2, x3, x4, x5⟩ := h
      have HK := Lib.hid hk
      have HO : Hid (o = .ok l ⟨x1, x2, x3, x4, x5⟩ k) := by
        unfold Hid
        rw [HOF.out, hp]
      have r1 := R2.out.cell
      have r2 := R2.out.thaw
      clear hk hp
      go_wp2_with fail
      go_region
      all_goals
        go_wp2
        refine bodyPost_ret (v := .tuple #[.slice A l.length c, nvv ⟨x1, x2, x3, x4, x5⟩ A1 k.len c1, .int .i64 0, .int .i64 0]) ?_ rfl ⟨((below_put6 B2.out (Nat.le_refl _) _ _ _ _ _ _).alloc (by simp [World.setCell]; omega) _).drew, by rw [HO.out]; exact ⟨A, c, A1, c1, rfl, TokAt.frame HTB.out (frame6 _ _ _ _ _ _ _ _ _) HNE.out, hcc, HK.out.keep (frame6 w2 w.heap.size _ _ _ _ _ _ _).size (fun g hg hl => ⟨(frame6 w2 w.heap.size _ _ _ _ _ _ _).block g hl (by omega), by omega⟩)⟩⟩
        have r7 := row6 R2.out rfl (.int .i64 x1) (.int .i64 x2) (.int .i64 x3) (.string x4) (.int .i64 x5) (.slice A1 k.len c1) (.cells (ncc ⟨x1, x2, x3, x4, x5⟩ A1 k.len c1) 25)
        simp [results, Tryz.results12, go_sem, r7]
end Pg
end Go.Proofs.YtiabkkdeonepgaaGreatDoor
