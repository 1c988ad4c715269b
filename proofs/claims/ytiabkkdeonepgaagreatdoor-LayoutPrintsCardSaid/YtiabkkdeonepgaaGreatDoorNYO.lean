import Derived.Test.YtiabkkdeonepgaaGreatDoorXP
import Derived.Test.YtiabkkdeonepgaaGreatDoorYB
import Derived.Test.YtiabkkdeonepgaaGreatDoorXK
import Derived.Test.YtiabkkdeonepgaaGreatDoorXQ
set_option maxRecDepth 100000
namespace Go.Proofs.YtiabkkdeonepgaaGreatDoor
open Go.RowKit
namespace Pg
open Ps
set_option maxHeartbeats 4000000 in
theorem rparse_any (l : List Tok) (A : Option Addr) (c : Nat) (w : World) (hT : TokAt w A l) (W : Wf2 l) (hc : l.length ≤ c) :
    Calls Tryz.prog 11 #[.slice A l.length c] w (OutQ l.length w (parseM l)) := by
  have hpos := W.pos
  have hle := W.le
  obtain ⟨g, eg, hg, ht⟩ := hT hpos
  subst eg
  obtain ⟨la, hla⟩ : ∃ la, la + 1 = l.length := ⟨l.length - 1, by omega⟩
  have hlai : la < l.length := by omega
  have c0 := (ht la hlai).1
  have hk0 : l[la].kind = 0 := by
    by_cases hk : l[la].kind = 0
    · exact hk
    · have := W.next la hlai hk; omega
  rw [hk0] at c0
  obtain ⟨⟨qf, qi, qb⟩, hq, _⟩ := items_some W.toWf
  have hpm : parseM l = wholeM l (.one ⟨1, 0, qi, e0, 0⟩ qf, qi, qb) := by unfold parseM; rw [hq]
  obtain ⟨o, hof⟩ : ∃ o, o = parseM l := ⟨_, rfl⟩
  rw [← hof]
  have HO : Hid (o = wholeM l (.one ⟨1, 0, qi, e0, 0⟩ qf, qi, qb)) := by unfold Hid; rw [hof, hpm]
  have hd := items_deep' hq
  have hw := items_wide' hq
  dsimp only at hd hw
  have b0 := bel1 w (.cells zcc 25)
  have b1 := b0.alloc b0.size (.cells #[.slice (some ⟨g, 0, none⟩) l.length c, .int .i64 (-1)] 62)
  have B2 := Lib.hid b1
  have R1 : Hid (RowB ((w.alloc (.cells zcc 25)).alloc (.cells #[.slice (some ⟨g, 0, none⟩) l.length c, .int .i64 (-1)] 62)) w.heap.size 25 zcc) := (RowB.new w 25 zcc).alloc _
  have ST : Ps.St (⟨w.heap.size + 1, some ⟨g, 0, none⟩, l, c⟩ : Cx) ((w.alloc (.cells zcc 25)).alloc (.cells #[.slice (some ⟨g, 0, none⟩) l.length c, .int .i64 (-1)] 62)) (-1) := by
    refine ⟨by simpa using RowB.new (w.alloc (.cells zcc 25)) 62 #[.slice (some ⟨g, 0, none⟩) l.length c, .int .i64 (-1)], ⟨g, rfl, by dsimp only; omega, fun i hi => ?_⟩, W.toWf, hc, by dsimp only; omega⟩
    obtain ⟨t0, t1, t2, t3⟩ := ht i hi
    exact ⟨(b1.cell (p := ⟨g, i * 4, none⟩) hg).trans t0, (b1.cell (p := ⟨g, i * 4 + 1, none⟩) hg).trans t1, (b1.cell (p := ⟨g, i * 4 + 2, none⟩) hg).trans t2, (b1.cell (p := ⟨g, i * 4 + 3, none⟩) hg).trans t3⟩
  have CK := Lib.hid (Ps.rfile_any (⟨w.heap.size + 1, some ⟨g, 0, none⟩, l, c⟩ : Cx) fuel (by unfold fuel; omega) _ qf qi qb hq ST)
  have HWW := Lib.hid W
  have e1 : IntKind.i64.wrap ((l.length : Int) - 1) = (la : Int) := by rw [IntKind.wrap_i64]; omega
  have hli : (la : Int) < (l.length : Int) := by omega
  have h0 : ((l.length : Int) == 0) = false := by rw [beq_eq_false_iff_ne]; omega
  have h4 : ¬ (l.length : Int) > 4000 := by omega
  clear b0 b1 ST hq hpm hof hT W ht hk0 hla
  go_enter Tryz.func11, Tryz.ntmps11
  go_wp2_with fail
  refine CK.out.mono ?_
  rintro e w3 ⟨A1, c1, rfl, hk, hS, hF, hlt, hend⟩
  try dsimp only at hlt hend
  have HEND := Lib.hid hend
  have B3 := Lib.hid (B2.out.trans (Fr.below hF (B' := w.heap.size) (by simp; omega) (by first | omega | (dsimp only; omega))))
  have R3 := Lib.hid (hF.row R1.out (by simp; omega) (by first | omega | (dsimp only; omega)))
  have hs3 : w.heap.size + 1 < w3.heap.size := by have := hF.size; simp at this; omega
  have HK : Hid (KV w3 (fun g => w.heap.size + 2 ≤ g) qf A1 c1) := hk.keep (Nat.le_refl _) (fun g hg _ => ⟨rfl, by simp at hg; omega⟩)
  have bz := bel1 w3 (.cells #[.int .i64 1, .int .i64 0, .int .i64 qi, .string e0, .int .i64 0, .slice A1 qf.len c1] 25)
  have B4 := Lib.hid (B3.out.alloc B3.out.size (.cells #[.int .i64 1, .int .i64 0, .int .i64 qi, .string e0, .int .i64 0, .slice A1 qf.len c1] 25))
  have R4 := Lib.hid (R3.out.below bz R3.out.lt)
  have Q4 := Lib.hid (RowB.new w3 25 #[.int .i64 1, .int .i64 0, .int .i64 qi, .string e0, .int .i64 0, .slice A1 qf.len c1])
  have S4 := hS.below bz
  have K4 := Lib.hid (HK.out.below bz)
  have r1 := R4.out.cell
  have r2 := R4.out.thaw
  have r3 := Q4.out.cell
  have r4 := S4.row.cell
  have hbl := S4.bl
  dsimp only at r4 hbl
  clear hk hF CK B2 R1 HK B3 R3 bz S4 hS c0 hend
  by_cases hb : 0 ≤ qb
  · have z1 : decide (qb ≥ 0) = true := decide_eq_true hb
    have z2 : qb ≥ 0 := hb
    have HO' : Hid (o = .bad 24 qb.toNat) := by
      unfold Hid
      rw [HO.out]
      unfold wholeM
      rw [if_pos (by dsimp only; exact hb)]
    have hqq : (qb.toNat : Int) = qb := by omega
    have hql : qb.toNat < l.length := by omega
    clear HO
    go_wp2_with fail
    go_region
    all_goals
      go_wp2
      refine bodyPost_ret (v := .tuple #[nv0, .int .i64 24, .int .i64 qb]) ?_ rfl ⟨(below_put6 B4.out (Nat.le_refl _) _ _ _ _ _ _).drew, by rw [HO'.out]; exact ⟨by rw [hqq]; rfl, hql⟩⟩
      simp [results, Tryz.results11, go_sem, r1]
      try first | rfl | exact ⟨rfl, rfl⟩
  · have z1 : decide (qb ≥ 0) = false := decide_eq_false (by omega)
    have z2 : ¬ qb ≥ 0 := by omega
    have hkz := HEND.out (by omega)
    have hnn : ¬ qi + 1 < l.length := fun h => HWW.out.conv qi hlt h (by rw [← Ps.kindAt_get hlt]; exact hkz)
    obtain ⟨dk, hdk⟩ : ∃ dk, dk = 1 + qf.deep := ⟨_, rfl⟩
    have CD := rdepth_any qf.deep ⟨1, 0, qi, e0, 0⟩ qf A1 c1 _ _ (Nat.le_refl _) (by omega) (by omega) (by omega) K4.out
    rw [← hdk] at CD
    have CD := Lib.hid CD
    have HO2 : Hid (o = if 60 < dk then .bad 25 0 else .ok ⟨1, 0, qi, e0, 0⟩ qf) := by
      unfold Hid
      rw [HO.out]
      unfold wholeM
      rw [if_neg (by dsimp only; exact hb), if_neg (by dsimp only; exact hnn)]
      simp only [Fo.one, hdk]
    clear hkz hnn hdk HO HWW HEND
    go_wp2_with fail
    refine CD.out.mono ?_
    rintro e w5 ⟨rfl, hb5⟩
    have B5 := Lib.hid (B4.out.trans (hb5.mono B4.out.size))
    have R5 := Lib.hid (R4.out.below hb5 R4.out.lt)
    have Q5 := Lib.hid (Q4.out.below hb5 Q4.out.lt)
    have K5 := Lib.hid (K4.out.below hb5)
    have r1 := R5.out.cell
    have r2 := R5.out.thaw
    have r3 := Q5.out.cell
    clear hb5 CD B4 R4 Q4 K4 r4
    by_cases h60 : 60 < dk
    · have z3 : decide ((dk : Int) > 60) = true := decide_eq_true (by omega)
      have z4 : (dk : Int) > 60 := by omega
      have HO' : Hid (o = .bad 25 0) := by
        unfold Hid
        rw [HO2.out, if_pos h60]
      go_wp2
      refine bodyPost_ret (v := .tuple #[nv0, .int .i64 25, .int .i64 0]) ?_ rfl ⟨below_put6 B5.out (Nat.le_refl _) _ _ _ _ _ _, by rw [HO'.out]; exact ⟨rfl, hpos⟩⟩
      simp [results, Tryz.results11, go_sem, r1]
      try first | rfl | exact ⟨rfl, rfl⟩
    · have z3 : decide ((dk : Int) > 60) = false := decide_eq_false (by omega)
      have z4 : ¬ (dk : Int) > 60 := by omega
      have HO' : Hid (o = .ok ⟨1, 0, qi, e0, 0⟩ qf) := by
        unfold Hid
        rw [HO2.out, if_neg h60]
      go_wp2
      refine bodyPost_ret (v := .tuple #[nvv ⟨1, 0, qi, e0, 0⟩ A1 qf.len c1, .int .i64 0, .int .i64 0]) ?_ rfl ⟨below_put6 B5.out (Nat.le_refl _) _ _ _ _ _ _, by rw [HO'.out]; exact ⟨A1, c1, rfl, K5.out.keep (by simp [World.setCell]) (fun g hg _ => ⟨by iterate 6 rw [Below.heap_setCell _ _ _ _ (by dsimp only; omega)], by omega⟩)⟩⟩
      simp [results, Tryz.results11, go_sem, r1]
      try first | rfl | exact ⟨rfl, rfl⟩
set_option maxHeartbeats 1000000 in
theorem rof_any (s : ByteArray) (hs : (s.size : Int) ≤ 9223372036854775807) (w : World) : Calls Tryz.prog 4 #[.string s] w (OfQ w (ofM s)) := by
  have R0 := Lib.hid (RowB.new w 25 zcc)
  have B0 := Lib.hid (bel1 w (.cells zcc 25))
  have CL := rlext_any s hs (w.alloc (.cells zcc 25))
  obtain ⟨o, hof⟩ : ∃ o, o = ofM s := ⟨_, rfl⟩
  rw [← hof]
  unfold ofM at hof
  unfold Lext at CL
  cases hx : lexR s with
  | bad er a =>
    rw [hx] at CL hof
    dsimp only at hof
    subst hof
    have CL := Lib.hid CL
    have hne := lexR_bad hx
    have h1 : (er == 0) = false := by rw [beq_eq_false_iff_ne]; exact hne
    have h2 : (er != 0) = true := by rw [bne_iff_ne]; exact hne
    clear hx
    go_enter Tryz.func4, Tryz.ntmps4
    go_wp2_with fail
    refine CL.out.mono ?_
    rintro e w1 ⟨hb, rfl⟩
    have B1 := Lib.hid (B0.out.trans (hb.mono (by simp)))
    have R1 := R0.out.below hb (by simp)
    have r1 := R1.cell
    have r2 := R1.thaw
    clear hb CL R1 R0 B0
    go_wp2
    refine bodyPost_ret (v := .tuple #[.slice none 0 0, nv0, .int .i64 er, .int .i64 a]) ?_ rfl ⟨below_put6 B1.out (Nat.le_refl _) _ _ _ _ _ _, rfl⟩
    simp [results, Tryz.results4, go_sem, r1]
    try first | rfl | exact ⟨rfl, rfl⟩
  | good l =>
    rw [hx] at CL hof
    have CL := Lib.hid CL
    have HOF := Lib.hid hof
    have HX := Lib.hid hx
    clear hx hof
    go_enter Tryz.func4, Tryz.ntmps4
    go_wp2_with fail
    refine CL.out.mono ?_
    rintro e w1 ⟨hb, A, c, rfl, hTA, hle, hc⟩
    have W := lexR_wf HX.out hle
    have HW := Lib.hid W
    have hpos := W.pos
    have hcc := hc hpos
    have B1 := Lib.hid (B0.out.trans (hb.mono (by simp)))
    have R1 := Lib.hid (R0.out.below hb (by simp))
    have HTA := Lib.hid hTA
    have CP := Lib.hid (rparse_any l A c w1 hTA W hcc)
    have hsz : w.heap.size < w1.heap.size := by have := hb.size; simp at this; omega
    have HNE : Hid (∀ g, A = some ⟨g, 0, none⟩ → g ≠ w.heap.size) := fun g eg e => by
      obtain ⟨g', eg', _, ht⟩ := hTA hpos
      rw [eg] at eg'
      injection eg' with eg'
      injection eg' with eg'
      have h1 := (ht 0 hpos).2.2.1
      rw [← eg', e] at h1
      have h2 := R1.out.cell 2
      rw [show 0 * 4 + 2 = 2 from rfl, h2] at h1
      simp at h1
    clear hb CL R0 B0 hTA hc W HX
    go_wp2_with fail
    refine CP.out.mono ?_
    rintro e w2 ⟨hb, ho⟩
    have B2 := Lib.hid (B1.out.trans (hb.mono (by omega)))
    have R2 := Lib.hid (R1.out.below hb (by omega))
    have HTB := Lib.hid (HTA.out.below hb)
    have hsz2 : w.heap.size < w2.heap.size := by have := hb.size; omega
    clear hb CP R1 B1
    cases hp : parseM l with
    | bad er a =>
      rw [hp] at ho
      obtain ⟨rfl, hal⟩ := ho
      have her := parse_bad HW.out hp
      have HO : Hid (o = .bad er (atOf l a : Int)) := by
        unfold Hid
        rw [HOF.out, hp]
      have h1 : ((er : Int) == 0) = false := by rw [beq_eq_false_iff_ne]; omega
      have h2 : ((er : Int) != 0) = true := by rw [bne_iff_ne]; omega
      obtain ⟨g, eg, hg, ht⟩ := HTB.out hpos
      obtain ⟨_, c1, _, _⟩ := ht a hal
      have hat : atOf l a = l[a].at_ := by unfold atOf; rw [List.getElem?_eq_getElem hal]; rfl
      rw [← hat] at c1
      have hali : (a : Int) < (l.length : Int) := by omega
      have r1 := R2.out.cell
      have r2 := R2.out.thaw
      generalize atOf l a = at1 at *
      have hne := HNE.out g eg
      have hne2 : w.heap.size ≠ g := fun e => hne e.symm
      subst eg
      clear hp her ht hat HTA HTB
      go_wp2_with fail
      go_region
      all_goals
        go_wp2
        refine bodyPost_ret (v := .tuple #[.slice none 0 0, nv0, .int .i64 er, .int .i64 at1]) ?_ rfl ⟨((below_put6 B2.out (Nat.le_refl _) _ _ _ _ _ _).alloc (by simp [World.setCell]; omega) _).drew, by rw [HO.out]⟩
        have r7 := row6 R2.out rfl (.int .i64 0) (.int .i64 0) (.int .i64 0) (.string ⟨#[]⟩) (.int .i64 0) (.slice none 0 0) (.cells #[.int .i64 0, .int .i64 0, .int .i64 0, .string ⟨#[]⟩, .int .i64 0, .slice none 0 0] 25)
        simp [results, Tryz.results4, go_sem, r7]
    | ok h k =>
      rw [hp] at ho
      obtain ⟨A1, c1, rfl, hk⟩ := ho
      obtain ⟨x1, x2, x3, x4, x5⟩ := h
      have HK := Lib.hid hk
      have HO : Hid (o = .ok l ⟨x1, x2, x3, x4, x5⟩ k) := by
        unfold Hid
        rw [HOF.out, hp]
      have r1 := R2.out.cell
      have r2 := R2.out.thaw
      clear hk hp
      go_wp2_with fail
      go_region
      all_goals
        go_wp2
        refine bodyPost_ret (v := .tuple #[.slice A l.length c, nvv ⟨x1, x2, x3, x4, x5⟩ A1 k.len c1, .int .i64 0, .int .i64 0]) ?_ rfl ⟨((below_put6 B2.out (Nat.le_refl _) _ _ _ _ _ _).alloc (by simp [World.setCell]; omega) _).drew, by rw [HO.out]; exact ⟨A, c, A1, c1, rfl, TokAt.frame HTB.out (frame6 _ _ _ _ _ _ _ _ _) HNE.out, hcc, HK.out.keep (frame6 w2 w.heap.size _ _ _ _ _ _ _).size (fun g hg hl => ⟨(frame6 w2 w.heap.size _ _ _ _ _ _ _).block g hl (by omega), by omega⟩)⟩⟩
        have r7 := row6 R2.out rfl (.int .i64 x1) (.int .i64 x2) (.int .i64 x3) (.string x4) (.int .i64 x5) (.slice A1 k.len c1) (.cells (ncc ⟨x1, x2, x3, x4, x5⟩ A1 k.len c1) 25)
        simp [results, Tryz.results4, go_sem, r7]
end Pg
end Go.Proofs.YtiabkkdeonepgaaGreatDoor
