/- Contracts: the document's Type, given what its Lex answers. -/
import Derived.Test.YthlkjfkgdijfdaaGreatDoorYA
import Derived.Test.YthlkjfkgdijfdaaGreatDoorYB
import Derived.Test.YthlkjfkgdijfdaaGreatDoorNK
namespace Go.Proofs.YthlkjfkgdijfdaaGreatDoor
open Go.RowKit
namespace Pg
open Ps
set_option maxHeartbeats 4000000 in
set_option maxRecDepth 100000 in
theorem rtype_any (s : ByteArray) (w : World) (hL : ∀ w', Below w.heap.size w w' → Calls Tryz.prog 19 #[.string s] w' (Lext s w')) : Calls Tryz.prog 13 #[.string s] w (TypQ w (typeM s)) := by
  have R0 := Lib.hid (RowB.new w 25 zcc)
  have B0 := Lib.hid (bel1 w (.cells zcc 25))
  have CL := hL (w.alloc (.cells zcc 25)) B0.out
  obtain ⟨o, hof⟩ : ∃ o, o = typeM s := ⟨_, rfl⟩
  rw [← hof]
  unfold typeM at hof
  unfold Lext at CL
  cases hx : lexR s with
  | bad er a =>
    rw [hx] at CL hof
    dsimp only at hof
    subst hof
    have CL := Lib.hid CL
    have hne := lexR_bad hx
    have h1 : (er == 0) = false := by rw [beq_eq_false_iff_ne]; exact hne
    have h2 : (er != 0) = true := by rw [bne_iff_ne]; exact hne
    clear hx hL
    go_enter Tryz.func13, Tryz.ntmps13
    go_wp2_with fail
    refine CL.out.mono ?_
    rintro e w1 ⟨hb, rfl⟩
    have B1 := Lib.hid (B0.out.trans (hb.mono (by simp)))
    have R1 := R0.out.below hb (by simp)
    have r1 := R1.cell
    have r2 := R1.thaw
    clear hb CL R1 R0 B0
    go_wp2
    refine bodyPost_ret (v := .tuple #[nv0, .int .i64 er]) ?_ rfl ⟨below_put6 B1.out (Nat.le_refl _) _ _ _ _ _ _, rfl⟩
    simp [results, Tryz.results13, go_sem, r1]
    try first | rfl | exact ⟨rfl, rfl⟩
  | good l =>
    rw [hx] at CL hof
    have CL := Lib.hid CL
    have HOF := Lib.hid hof
    have HX := Lib.hid hx
    clear hx hL hof
    go_enter Tryz.func13, Tryz.ntmps13
    go_wp2_with fail
    refine CL.out.mono ?_
    rintro e w1 ⟨hb, A, c, rfl, hTA, hle, hc⟩
    have W := lexR_wf HX.out hle
    have hpos := W.pos
    have hcc := hc hpos
    have hbs := hb.size
    have B1 := B0.out.trans (hb.mono (by simp))
    have R1 := Lib.hid ((R0.out.below hb (by simp)).alloc (.cells #[.slice A l.length c, .int .i64 (-1)] 61))
    have B2 := Lib.hid (B1.alloc B1.size (.cells #[.slice A l.length c, .int .i64 (-1)] 61))
    obtain ⟨q, hq, _⟩ := ty_some W.toWf
    have hpm : ptypeM l = wholeM l q := by unfold ptypeM; rw [hq]
    have hd := ty_deep' hq
    have hw := ty_wide' hq
    have bz := bel1 w1 (.cells #[.slice A l.length c, .int .i64 (-1)] 61)
    obtain ⟨g, eg, hg, ht⟩ := hTA hpos
    subst eg
    have ST : Ps.St (⟨w1.heap.size, some ⟨g, 0, none⟩, l, c⟩ : Cx) (w1.alloc (.cells #[.slice (some ⟨g, 0, none⟩) l.length c, .int .i64 (-1)] 61)) (-1) := by
      refine ⟨RowB.new w1 61 _, ⟨g, rfl, hg, fun i hi => ?_⟩, W.toWf, hcc⟩
      obtain ⟨t0, t1, t2, t3⟩ := ht i hi
      exact ⟨(bz.cell (p := ⟨g, i * 4, none⟩) hg).trans t0, (bz.cell (p := ⟨g, i * 4 + 1, none⟩) hg).trans t1, (bz.cell (p := ⟨g, i * 4 + 2, none⟩) hg).trans t2, (bz.cell (p := ⟨g, i * 4 + 3, none⟩) hg).trans t3⟩
    have CK := Lib.hid (Ps.kind_any (⟨w1.heap.size, some ⟨g, 0, none⟩, l, c⟩ : Cx) fuel (by unfold fuel; omega) (-1) 0 _ q hq ST hpos)
    have HO : Hid (o = match wholeM l q with
      | .ok h k => .ok h k
      | .bad e _ => .bad (e : Int)) := by
      unfold Hid
      rw [← hpm]
      exact HOF.out
    have hsz : w.heap.size < w1.heap.size := by simp at hbs; omega
    have HWW := Lib.hid W
    clear hb hbs CL R0 B0 hTA hc HX bz hq hpm W HOF B1 ST ht hg hle
    go_wp2_with fail
    refine CK.out.mono ?_
    rintro e w3 ⟨h, k, A1, c1, hq1, rfl, hk, hS, hF, hlt⟩
    obtain ⟨qf, qi, qb⟩ := q
    dsimp only at hq1 hS hlt hd hw
    subst hq1
    rw [Fo.deep_one] at hd
    rw [Fo.wide_one] at hw
    have B3 := Lib.hid (B2.out.trans (Fr.below hF (B' := w.heap.size) (by simp; omega) (by dsimp only; omega)))
    have R3 := Lib.hid (hF.row R1.out (by simp; omega) (by dsimp only; omega))
    have hs3 : w1.heap.size < w3.heap.size := by have := hF.size; simp at this; omega
    have HK : Hid (KV w3 (fun g => w1.heap.size + 1 ≤ g) k A1 c1) := hk.keep (Nat.le_refl _) (fun g hg _ => ⟨rfl, by simp at hg; omega⟩)
    obtain ⟨x1, x2, x3, x4, x5⟩ := h
    have bz := bel1 w3 (.cells (ncc ⟨x1, x2, x3, x4, x5⟩ A1 k.len c1) 25)
    have B4 := Lib.hid (B3.out.alloc B3.out.size (.cells (ncc ⟨x1, x2, x3, x4, x5⟩ A1 k.len c1) 25))
    have R4 := Lib.hid (R3.out.below bz R3.out.lt)
    have Q4 := Lib.hid (RowB.new w3 25 (ncc ⟨x1, x2, x3, x4, x5⟩ A1 k.len c1))
    have S4 := hS.below bz
    have K4 := Lib.hid (HK.out.below bz)
    have r1 := R4.out.cell
    have r2 := R4.out.thaw
    have r3 := Q4.out.cell
    have r4 := S4.row.cell
    obtain ⟨g', eg', hg', ht'⟩ := S4.toks
    obtain ⟨t0, _, _, _⟩ := ht' qi hlt
    dsimp only at t0 eg' r4 hlt
    have hqi : (qi : Int) < (l.length : Int) := by omega
    injection eg' with eg'
    injection eg' with eg'
    subst eg'
    clear hk hF CK B2 R1 HK B3 R3 bz S4 ht' hS
    by_cases hb : 0 ≤ qb
    · have z1 : decide (qb ≥ 0) = true := decide_eq_true hb
      have HO' : Hid (o = .bad 24) := by
        unfold Hid
        rw [HO.out]
        unfold wholeM
        rw [if_pos hb]
        rfl
      have B5 := B4
      go_wp2
      refine bodyPost_ret (v := .tuple #[nv0, .int .i64 24]) ?_ rfl ⟨below_put6 B5.out (Nat.le_refl _) _ _ _ _ _ _, by rw [HO'.out]⟩
      simp [results, Tryz.results13, go_sem, r1]
      try first | rfl | exact ⟨rfl, rfl⟩
    · have z1 : decide (qb ≥ 0) = false := decide_eq_false (by omega)
      obtain ⟨kd, hkd⟩ : ∃ kd, kd = l[qi].kind := ⟨_, rfl⟩
      rw [← hkd] at t0
      by_cases hk0 : kd = 0
      · have hend : ¬ qi + 1 < l.length := fun h => HWW.out.conv qi hlt h (by rw [← hkd]; exact hk0)
        subst hk0
        obtain ⟨dk, hdk⟩ : ∃ dk, dk = 1 + k.deep := ⟨_, rfl⟩
        have CD := rdepth_any k.deep ⟨x1, x2, x3, x4, x5⟩ k A1 c1 _ _ (Nat.le_refl _) (by omega) (by omega) (by omega) K4.out
        rw [← hdk] at CD
        have CD := Lib.hid CD
        have HO2 : Hid (o = if 60 < dk then .bad 25 else .ok ⟨x1, x2, x3, x4, x5⟩ k) := by
          unfold Hid
          rw [HO.out]
          unfold wholeM
          rw [if_neg hb, if_neg (by dsimp only; exact hend)]
          simp only [Fo.one, hdk]
          by_cases h6 : 60 < 1 + k.deep
          · simp only [if_pos h6]
            rfl
          · simp only [if_neg h6]
        clear hend hkd hdk HO HWW
        have z0 : ((0 : Nat) : Int) = 0 := rfl
        rw [z0] at t0
        clear z0
        go_wp2_with fail
        refine CD.out.mono ?_
        rintro e w5 ⟨rfl, hb5⟩
        have B5 := Lib.hid (B4.out.trans (hb5.mono B4.out.size))
        have R5 := Lib.hid (R4.out.below hb5 R4.out.lt)
        have Q5 := Lib.hid (Q4.out.below hb5 Q4.out.lt)
        have K5 := Lib.hid (K4.out.below hb5)
        have r1 := R5.out.cell
        have r2 := R5.out.thaw
        have r3 := Q5.out.cell
        clear hb5 CD B4 R4 Q4 K4 r4 t0
        by_cases h60 : 60 < dk
        · have z2 : decide ((dk : Int) > 60) = true := decide_eq_true (by omega)
          have HO' : Hid (o = .bad 25) := by
            unfold Hid
            rw [HO2.out, if_pos h60]
          go_wp2
          refine bodyPost_ret (v := .tuple #[nv0, .int .i64 25]) ?_ rfl ⟨below_put6 B5.out (Nat.le_refl _) _ _ _ _ _ _, by rw [HO'.out]⟩
          simp [results, Tryz.results13, go_sem, r1]
          try first | rfl | exact ⟨rfl, rfl⟩
        · have z2 : decide ((dk : Int) > 60) = false := decide_eq_false (by omega)
          have z3 : ¬ (dk : Int) > 60 := by omega
          have HO' : Hid (o = .ok ⟨x1, x2, x3, x4, x5⟩ k) := by
            unfold Hid
            rw [HO2.out, if_neg h60]
          go_wp2
          refine bodyPost_ret (v := .tuple #[nvv ⟨x1, x2, x3, x4, x5⟩ A1 k.len c1, .int .i64 0]) ?_ rfl ⟨below_put6 B5.out (Nat.le_refl _) _ _ _ _ _ _, by rw [HO'.out]; exact ⟨A1, c1, rfl, K5.out.keep (by simp [World.setCell]) (fun g hg _ => ⟨by iterate 6 rw [Below.heap_setCell _ _ _ _ (by dsimp only; omega)], by omega⟩)⟩⟩
          simp [results, Tryz.results13, go_sem, r1]
          try first | rfl | exact ⟨rfl, rfl⟩
      · have hnext : qi + 1 < l.length := HWW.out.next qi hlt (by rw [← hkd]; exact hk0)
        have z2 : ((kd : Int) != 0) = true := by rw [bne_iff_ne]; omega
        have z3 : ((kd : Int) == 0) = false := by rw [beq_eq_false_iff_ne]; omega
        have HO' : Hid (o = .bad 24) := by
          unfold Hid
          rw [HO.out]
          unfold wholeM
          rw [if_neg hb, if_pos (by dsimp only; exact hnext)]
          rfl
        have B5 := B4
        clear hkd HO HWW
        go_wp2
        refine bodyPost_ret (v := .tuple #[nv0, .int .i64 24]) ?_ rfl ⟨below_put6 B5.out (Nat.le_refl _) _ _ _ _ _ _, by rw [HO'.out]⟩
        simp [results, Tryz.results13, go_sem, r1]
        try first | rfl | exact ⟨rfl, rfl⟩
end Pg
end Go.Proofs.YthlkjfkgdijfdaaGreatDoor
