import Derived.Test.YtnefnnoleeeedaaMAP
import Derived.BigQuiet
import Derived.Laws.StructEq
import Derived.Test.YtnefnnoleeeedaaMAN
import Derived.Test.YtnefnnoleeeedaaMAG
namespace Go.Proofs.Ytnefnnoleeeedaa
open Go.RowKit Go.Op
namespace Sc
open Vm
set_option maxHeartbeats 32000000 in
set_option maxRecDepth 100000 in
theorem nodeR_any {b B : Nat} {it : Int} (h : Hi) (k : Tr) (hk : TKR b B it k) : NodeR b B it h k := by
  intro w K R N v1 v2 v3 lo AL cL L A cap hm hl hw hgd hL hN ht hB
  obtain ⟨kd, fro, til, word, at_⟩ := h
  have HCL := Lib.hid (closedR_any k hk)
  have HTK := Lib.hid hk
  obtain ⟨nk, hnk⟩ : ∃ nk, nk = k.len := ⟨_, rfl⟩
  have hkl := Tr.len_cnt k
  have M1 := Lib.hid (hm.alloc (.cells #[.int .i64 kd, .int .i64 fro, .int .i64 til, .string word, .int .i64 at_, .slice A nk cap] 25))
  have G1 := Lib.hid (Gx.alloc K w (.cells #[.int .i64 kd, .int .i64 fro, .int .i64 til, .string word, .int .i64 at_, .slice A nk cap] 25))
  have N1 := Lib.hid (hl.gx (Gx.alloc K w (.cells #[.int .i64 kd, .int .i64 fro, .int .i64 til, .string word, .int .i64 at_, .slice A nk cap] 25)))
  have R1 := Lib.hid (RowB.new w 25 #[.int .i64 kd, .int .i64 fro, .int .i64 til, .string word, .int .i64 at_, .slice A nk cap])
  have K1 : Hid (¬ K w.heap.size) := hm.inv
  have T1 := Lib.hid (ht.keep (w' := w.alloc (.cells #[.int .i64 kd, .int .i64 fro, .int .i64 til, .string word, .int .i64 at_, .slice A nk cap] 25)) (Old.of ((Below.refl _ _).alloc hB _)))
  have B1 : Hid (B ≤ (w.alloc (.cells #[.int .i64 kd, .int .i64 fro, .int .i64 til, .string word, .int .i64 at_, .slice A nk cap] 25)).heap.size) := by unfold Hid; simp; omega
  have HW := Lib.hid hw
  have HGD := Lib.hid hgd
  have HL := Lib.hid hL
  have HN := Lib.hid hN
  have HNK := Lib.hid hnk
  have hnk2 : nk ≤ 10000000 := by omega
  obtain ⟨n0, hn0⟩ : ∃ n0, n0 = L.length := ⟨_, rfl⟩
  have HN0 := Lib.hid hn0
  simp only [hvv] at *
  rw [← hnk, ← hn0]
  clear hm hl hw hgd hL hN ht hB hk hnk hkl hn0
  obtain ⟨W1, hW1⟩ : ∃ W1, W1 = w.alloc (.cells #[.int .i64 kd, .int .i64 fro, .int .i64 til, .string word, .int .i64 at_, .slice A nk cap] 25) := ⟨_, rfl⟩
  have HW1 := Lib.hid hW1
  rw [← hW1] at M1 G1 N1 R1 T1 B1
  obtain ⟨bx, hbx⟩ : ∃ bx, bx = w.heap.size := ⟨_, rfl⟩
  have HBX := Lib.hid hbx
  rw [← hbx] at R1 K1
  clear hW1 hbx
  by_cases h23 : kd = 23
  · subst h23
    obtain ⟨wn, _, hwi⟩ := HW.out
    have CM := Lib.hid (mentionr_any M1.out N1.out (by have := HL.out; omega) wn hwi ⟨23, fro, til, word, at_⟩ A nk cap false (by have := HN.out; omega))
    simp only [hvv] at CM
    rw [← HN0.out] at CM
    clear hwi
    have hbox := R1.out.cell
    go_enter Try.func50, Try.ntmps50
    go_wp2_with fail
    rw [← HW1.out]
    try rw [← HBX.out]
    refine CM.out.mono ?_
    rintro e w2 ⟨rfl, K2, u1, u2, u3, hm2, g2⟩
    have FE : Hid (Named b B w K (nodesR it (.cons ⟨23, fro, til, word, at_⟩ k .nil) (R, L)) (N + 4 * (k.cnt + 1)) (.returned (.slice AL n0 cL)) w2) := ⟨AL, cL, K2, u1, u2, u3, lo, by rw [nodesR, if_pos rfl, nodesR, HN0.out], by rw [nodesR, if_pos rfl, nodesR]; exact hm2.mono (by omega), G1.out.trans g2, by rw [nodesR, if_pos rfl, nodesR]; exact N1.out.gx g2⟩
    clear hm2 g2 CM hbox
    go_wp2_with fail
    (first | go_ret | go_ret2 | go_end0)
    exact FE.out
  have b23 : (kd == 23) = false := by rw [beq_eq_false_iff_ne]; exact h23
  by_cases h28 : kd = 28
  · subst h28
    have hlm : Lm k := by have := HGD.out; rw [Gd] at this; have h2 := this.2.2.2.1; rw [if_pos rfl] at h2; exact h2
    have CM := Lib.hid (HCL.out W1 K R N v1 v2 v3 lo AL cL L A cap true M1.out N1.out HW.out hlm (by have := HL.out; omega) (by have := HN.out; omega) T1.out B1.out)
    rw [← HN0.out, ← HNK.out] at CM
    have hbox := R1.out.cell
    go_enter Try.func50, Try.ntmps50
    go_wp2_with fail
    rw [← HW1.out]
    try rw [← HBX.out]
    refine CM.out.mono ?_
    rintro e w2 ⟨rfl, K2, u1, u2, u3, hm2, g2⟩
    have hl2 : (lamR it true k (R, L)).2 = L := by
      match k, hlm with
      | .cons _ kp (.cons _ _ (.cons hb kb .nil)), _ => rw [lamR]
    have FE : Hid (Named b B w K (nodesR it (.cons ⟨28, fro, til, word, at_⟩ k .nil) (R, L)) (N + 4 * (k.cnt + 1)) (.returned (.slice AL n0 cL)) w2) := ⟨AL, cL, K2, u1, u2, u3, lo, by rw [nodesR, if_neg (by simp), if_neg (by simp), if_pos rfl, nodesR, hl2, HN0.out], by rw [nodesR, if_neg (by simp), if_neg (by simp), if_pos rfl, nodesR]; exact hm2.mono (by omega), G1.out.trans g2, by rw [nodesR, if_neg (by simp), if_neg (by simp), if_pos rfl, nodesR, hl2]; exact N1.out.gx g2⟩
    clear hm2 g2 CM hbox hl2 hlm
    go_wp2_with fail
    (first | go_ret | go_ret2 | go_end0)
    exact FE.out
  have b28 : (kd == 28) = false := by rw [beq_eq_false_iff_ne]; exact h28
  by_cases h7 : kd = 7
  · subst h7
    have HGK : Hid (Gd k) := by have := HGD.out; rw [Gd] at this; have h2 := this.2.2.2.1; rw [if_neg (by first | decide | omega)] at h2; exact h2
    have hm := M1.out
    have hnn := N1.out
    have HLT : Hid (∀ g, K g → B ≤ g ∧ g < W1.heap.size) := M1.out.lt
    have RB := Lib.hid (((Gx.refl K W1)).row R1.out K1.out)
    have KB : Hid (¬ K bx) := fun hk2 => by
      rcases ((Gx.refl K W1)).own bx hk2 with q | q
      · exact K1.out q
      · have := R1.out.lt; omega
    have HTB : Hid (TV W1 B k A cap) := T1.out.keep (((Gx.refl K W1)).old M1.out.lt B1.out)
    have HBB : Hid (B ≤ W1.heap.size) := Nat.le_trans B1.out ((Gx.refl K W1)).size
    have HS0 : Hid (LoopR b B it W1 K k (R, L) N 0 AL n0 cL W1) := ⟨⟨(R, L), N, ⟨by first | rfl | exact HN0.out | (rw [HN0.out]; rfl), K, _, _, _, _, M1.out, Gx.refl _ _, N1.out⟩, HW.out, by rw [Tr.drop_zero], by rw [Tr.drop_zero]; exact Nat.le_refl _, by rw [Tr.drop_zero]; exact Nat.le_refl _⟩⟩
    have GB := Lib.hid (Gx.refl K W1)
    obtain ⟨Kb, hKb⟩ : ∃ Kb, Kb = K := ⟨_, rfl⟩
    obtain ⟨Nb, hNb⟩ : ∃ Nb, Nb = N := ⟨_, rfl⟩
    have HNB : Hid (Nb + 4 * k.cnt ≤ 100000000) := by have := HN.out; unfold Hid; omega
    have HLB : Hid ((R, L).2.length + k.cnt ≤ 10000000) := by have := HL.out; show L.length + _ ≤ _; omega
    have HKB := Lib.hid hKb
    have HNBE := Lib.hid hNb
    have hbox := R1.out.cell
    clear hm hnn
    go_enter Try.func50, Try.ntmps50
    go_wp2_with fail
    rw [← HW1.out]
    try rw [← HBX.out]
    obtain ⟨Wb, hWb⟩ : ∃ Wb, Wb = W1 := ⟨_, rfl⟩
    rw [← HKB.out, ← HNBE.out] at HS0
    rw [← HKB.out] at HLT KB GB
    rw [← hWb] at HLT RB HTB HBB HS0 GB ⊢
    have HWB := Lib.hid hWb
    clear hWb hKb hNb hbox
    go_loopg [9, 10] (nk + 1) (fun kx s9 s10 wr => ∃ (i : Nat) (Ai : Option Addr) (ni ci : Nat), s9 = .slice Ai ni ci ∧ s10 = .int .i64 i ∧ nk - i ≤ kx ∧ i ≤ nk ∧ Hid (LoopR b B it Wb Kb k (R, L) Nb i Ai ni ci wr))
    case atStart => exact ⟨0, _, _, _, rfl, rfl, by omega, by omega, HS0.out⟩
    case round =>
      obtain ⟨i, Ai, ni, ci, rfl, rfl, hkx, hin, HR⟩ := hrel
      obtain ⟨Ki, hgx⟩ := HR.out.gx
      have hbox := (hgx.row RB.out KB.out).cell
      by_cases hi : i < nk
      · have hil : (i : Int) < (nk : Int) := by omega
        obtain ⟨h', n2, g2, o2, A2, c2, hA, c0, c1', c2', c3, c4, c5, hcc⟩ := HR.out.call HTK.out HGK.out (by have := HNB.out; omega) (by have := HLB.out; omega) HBB.out HTB.out HLT.out (by rw [← HNK.out]; exact hi)
        subst hA
        obtain ⟨j, hj⟩ : ∃ j, j = i + 1 := ⟨_, rfl⟩
        have e1 : IntKind.i64.wrap ((i : Int) + 1) = (j : Int) := by rw [IntKind.wrap_i64]; omega
        rw [← hj] at hcc
        have HJ := Lib.hid hj
        have CC := Lib.hid hcc
        simp only [hvv] at CC
        clear hj hcc hgx HR HS0
        go_wp2_with fail
        refine CC.out.mono ?_
        rintro e w2 ⟨A', n', c', rfl, hr⟩
        have HR := Lib.hid hr
        clear hr CC c0 c1' c2' c3 c4 c5 hbox
        go_wp2_with fail
        have hj := HJ.out
        go_roundg (nk - j)
        case measure => omega
        case rel => exact ⟨j, A', n', c', rfl, rfl, by omega, by omega, HR.out⟩
      · have hd1 : decide ((i : Int) < (nk : Int)) = false := decide_eq_false (by omega)
        obtain ⟨hl1, hl2⟩ := HR.out.last (by rw [← HNK.out]; omega)
        obtain ⟨ee, Kx, x1, x2, x3, lo', q1, q2, q3⟩ := hl1
        obtain ⟨o1, o2, o3⟩ := nodesR_ok it k (R, L) HW.out
        obtain ⟨wn, _, hwi⟩ := hl2
        have CC := Lib.hid (bindr_any q1 q3 (by have := HLB.out; simp only at o3; omega) wn hwi ⟨7, fro, til, word, at_⟩ A nk cap 4 it (by have := HN.out; rw [HNBE.out]; omega))
        rw [← ee] at CC
        have HQ := Lib.hid q2
        simp only [hvv] at CC
        clear hwi o1 o2 o3 q1 q2 q3 ee hgx HR HS0
        go_wp2_with fail
        refine CC.out.mono ?_
        rintro e w2 ⟨A', c', K', y1, y2, y3, lo'', rfl, r1, r2, r3⟩
        have FE : Hid (Named b B w K (nodesR it (.cons ⟨7, fro, til, word, at_⟩ k .nil) (R, L)) (N + 4 * (k.cnt + 1)) (.returned (.slice A' (bindR at_ word 4 it (nodesR it k (R, L))).2.length c')) w2) := by
          rw [nodesR, if_neg (by simp), if_neg (by simp), if_neg (by simp), if_neg (by simp), if_pos rfl, nodesR]
          exact ⟨A', c', K', y1, y2, y3, lo'', rfl, r1.mono (by rw [HNBE.out]; omega), ((by rw [HWB.out, HKB.out]; exact G1.out : Gx K w Kb Wb)).trans (HQ.out.trans r2), r3⟩
        clear r1 r2 r3 CC HQ hbox
        obtain ⟨n9, hn9⟩ : ∃ n9, n9 = (bindR at_ word 4 it (nodesR it k (R, L))).2.length := ⟨_, rfl⟩
        rw [← hn9] at FE
        (try rw [← hn9])
        clear hn9
        go_wp2_with fail
        (first | go_ret | go_ret2 | go_end0)
        exact FE.out
  have b7 : (kd == 7) = false := by rw [beq_eq_false_iff_ne]; exact h7
  by_cases h8 : kd = 8
  · subst h8
    have HGK : Hid (Gd k) := by have := HGD.out; rw [Gd] at this; have h2 := this.2.2.2.1; rw [if_neg (by first | decide | omega)] at h2; exact h2
    obtain ⟨wn, hwl, hwi⟩ := HW.out
    have CM := Lib.hid (mentionr_any M1.out N1.out (by have := HL.out; omega) wn hwi ⟨8, fro, til, word, at_⟩ A nk cap true (by have := HN.out; omega))
    simp only [hvv] at CM
    rw [← HN0.out] at CM
    clear hwi
    have hbox := R1.out.cell
    go_enter Try.func50, Try.ntmps50
    go_wp2_with fail
    rw [← HW1.out]
    try rw [← HBX.out]
    refine CM.out.mono ?_
    rintro e w2 ⟨rfl, K2, u1, u2, u3, hm2, g2⟩
    have HWm : WR (mentionR at_ word true (R, L), L) := WR.mention (x := (R, L)) HW.out at_ word true
    have hn2 := N1.out.gx g2
    have HLT : Hid (∀ g, K2 g → B ≤ g ∧ g < w2.heap.size) := hm2.lt
    have RB := Lib.hid ((g2).row R1.out K1.out)
    have KB : Hid (¬ K2 bx) := fun hk2 => by
      rcases (g2).own bx hk2 with q | q
      · exact K1.out q
      · have := R1.out.lt; omega
    have HTB : Hid (TV w2 B k A cap) := T1.out.keep ((g2).old M1.out.lt B1.out)
    have HBB : Hid (B ≤ w2.heap.size) := Nat.le_trans B1.out (g2).size
    have HS0 : Hid (LoopR b B it w2 K2 k (mentionR at_ word true (R, L), L) (N + 2) 0 AL n0 cL w2) := ⟨⟨(mentionR at_ word true (R, L), L), (N + 2), ⟨by first | rfl | exact HN0.out | (rw [HN0.out]; rfl), K2, _, _, _, _, hm2, Gx.refl _ _, hn2⟩, HWm, by rw [Tr.drop_zero], by rw [Tr.drop_zero]; exact Nat.le_refl _, by rw [Tr.drop_zero]; exact Nat.le_refl _⟩⟩
    have GB := Lib.hid g2
    obtain ⟨Nb, hNb⟩ : ∃ Nb, Nb = N + 2 := ⟨_, rfl⟩
    have HNB : Hid (Nb + 4 * k.cnt ≤ 100000000) := by have := HN.out; unfold Hid; omega
    have HLB : Hid ((mentionR at_ word true (R, L), L).2.length + k.cnt ≤ 10000000) := by have := HL.out; show L.length + _ ≤ _; omega
    have HNBE := Lib.hid hNb
    clear hbox
    have hbox := (g2.row R1.out K1.out).cell
    clear hm2 hn2 HWm CM g2
    obtain ⟨Wb, hWb⟩ : ∃ Wb, Wb = w2 := ⟨_, rfl⟩
    obtain ⟨Kb, hKb⟩ : ∃ Kb, Kb = K2 := ⟨_, rfl⟩
    rw [← hKb, ← hNb] at HS0
    rw [← hKb] at HLT KB GB
    rw [← hWb] at HLT RB HTB HBB HS0 GB hbox ⊢
    clear hWb hKb hNb
    go_wp2_with fail
    go_loopg [9, 10] (nk + 1) (fun kx s9 s10 wr => ∃ (i : Nat) (Ai : Option Addr) (ni ci : Nat), s9 = .slice Ai ni ci ∧ s10 = .int .i64 i ∧ nk - i ≤ kx ∧ i ≤ nk ∧ Hid (LoopR b B it Wb Kb k (mentionR at_ word true (R, L), L) Nb i Ai ni ci wr))
    case atStart => exact ⟨0, _, _, _, rfl, rfl, by omega, by omega, HS0.out⟩
    case round =>
      obtain ⟨i, Ai, ni, ci, rfl, rfl, hkx, hin, HR⟩ := hrel
      obtain ⟨Ki, hgx⟩ := HR.out.gx
      have hbox := (hgx.row RB.out KB.out).cell
      by_cases hi : i < nk
      · have hil : (i : Int) < (nk : Int) := by omega
        obtain ⟨h', n2, g2, o2, A2, c2, hA, c0, c1', c2', c3, c4, c5, hcc⟩ := HR.out.call HTK.out HGK.out (by have := HNB.out; omega) (by have := HLB.out; omega) HBB.out HTB.out HLT.out (by rw [← HNK.out]; exact hi)
        subst hA
        obtain ⟨j, hj⟩ : ∃ j, j = i + 1 := ⟨_, rfl⟩
        have e1 : IntKind.i64.wrap ((i : Int) + 1) = (j : Int) := by rw [IntKind.wrap_i64]; omega
        rw [← hj] at hcc
        have HJ := Lib.hid hj
        have CC := Lib.hid hcc
        simp only [hvv] at CC
        clear hj hcc hgx HR HS0
        go_wp2_with fail
        refine CC.out.mono ?_
        rintro e w2 ⟨A', n', c', rfl, hr⟩
        have HR := Lib.hid hr
        clear hr CC c0 c1' c2' c3 c4 c5 hbox
        go_wp2_with fail
        have hj := HJ.out
        go_roundg (nk - j)
        case measure => omega
        case rel => exact ⟨j, A', n', c', rfl, rfl, by omega, by omega, HR.out⟩
      · have hd1 : decide ((i : Int) < (nk : Int)) = false := decide_eq_false (by omega)
        obtain ⟨hl1, hl2⟩ := HR.out.last (by rw [← HNK.out]; omega)
        have FE : Hid (Named b B w K (nodesR it (.cons ⟨8, fro, til, word, at_⟩ k .nil) (R, L)) (N + 4 * (k.cnt + 1)) (.returned (.slice Ai ni ci)) wr) := by
          rw [nodesR, if_neg (by simp), if_pos rfl, nodesR]
          exact hl1.named (G1.out.trans GB.out) (by rw [HNBE.out]; omega)
        clear hl1 hl2 HR HS0 hgx
        go_wp2_with fail
        (first | go_ret | go_ret2 | go_end0)
        exact FE.out
  have b8 : (kd == 8) = false := by rw [beq_eq_false_iff_ne]; exact h8
  by_cases h6 : kd = 6
  · subst h6
    have HGK : Hid (Gd k) := by have := HGD.out; rw [Gd] at this; have h2 := this.2.2.2.1; rw [if_neg (by first | decide | omega)] at h2; exact h2
    have CM := Lib.hid (begin_any N1.out.1 (by have := HL.out; omega) false)
    rw [← HN0.out] at CM
    have hbox := R1.out.cell
    go_enter Try.func50, Try.ntmps50
    go_wp2_with fail
    rw [← HW1.out]
    try rw [← HBX.out]
    refine CM.out.mono ?_
    rintro e w2 ⟨A1, c1, rfl, hn1, hb1⟩
    have g2 := Gx.of (K := K) hb1
    have hm2 := M1.out.below hb1
    have hn2 : NK w2 K W1.heap.size A1 c1 (⟨0, true, false⟩ :: L) := ⟨hn1, fun h0 a e hk => by
      obtain ⟨a', e', h1, h2, _⟩ := hn1.1 (by simp)
      rw [e] at e'
      injection e' with e'
      injection e' with e'
      subst e'
      have := (M1.out.lt a hk).2
      omega⟩
    have HWm : WR (R, ⟨0, true, false⟩ :: L) := HW.out.begin false
    have HLT : Hid (∀ g, K g → B ≤ g ∧ g < w2.heap.size) := hm2.lt
    have RB := Lib.hid ((g2).row R1.out K1.out)
    have KB : Hid (¬ K bx) := fun hk2 => by
      rcases (g2).own bx hk2 with q | q
      · exact K1.out q
      · have := R1.out.lt; omega
    have HTB : Hid (TV w2 B k A cap) := T1.out.keep ((g2).old M1.out.lt B1.out)
    have HBB : Hid (B ≤ w2.heap.size) := Nat.le_trans B1.out (g2).size
    have HS0 : Hid (LoopR b B it w2 K k (R, ⟨0, true, false⟩ :: L) N 0 A1 (n0 + 1) c1 w2) := ⟨⟨(R, ⟨0, true, false⟩ :: L), N, ⟨by first | rfl | exact HN0.out | (rw [HN0.out]; rfl), K, _, _, _, _, hm2, Gx.refl _ _, hn2⟩, HWm, by rw [Tr.drop_zero], by rw [Tr.drop_zero]; exact Nat.le_refl _, by rw [Tr.drop_zero]; exact Nat.le_refl _⟩⟩
    have GB := Lib.hid g2
    have HNB : Hid (N + 4 * k.cnt ≤ 100000000) := by have := HN.out; unfold Hid; omega
    have HLB : Hid ((R, (⟨0, true, false⟩ : Nm) :: L).2.length + k.cnt ≤ 10000000) := by have := HL.out; show L.length + 1 + _ ≤ _; omega
    clear hbox
    have hbox := (g2.row R1.out K1.out).cell
    have NOLD := Lib.hid (N1.out.gx g2)
    clear hm2 hn2 HWm CM g2 hn1 hb1
    obtain ⟨Wb, hWb⟩ : ∃ Wb, Wb = w2 := ⟨_, rfl⟩
    rw [← hWb] at HLT RB HTB HBB HS0 GB NOLD hbox ⊢
    clear hWb
    obtain ⟨n1, hn1⟩ : ∃ n1, n1 = n0 + 1 := ⟨_, rfl⟩
    rw [← hn1] at HS0 ⊢
    clear hn1
    go_wp2_with fail
    go_loopg [9, 10] (nk + 1) (fun kx s9 s10 wr => ∃ (i : Nat) (Ai : Option Addr) (ni ci : Nat), s9 = .slice Ai ni ci ∧ s10 = .int .i64 i ∧ nk - i ≤ kx ∧ i ≤ nk ∧ Hid (LoopR b B it Wb K k (R, ⟨0, true, false⟩ :: L) N i Ai ni ci wr))
    case atStart => exact ⟨0, _, _, _, rfl, rfl, by omega, by omega, HS0.out⟩
    case round =>
      obtain ⟨i, Ai, ni, ci, rfl, rfl, hkx, hin, HR⟩ := hrel
      obtain ⟨Ki, hgx⟩ := HR.out.gx
      have hbox := (hgx.row RB.out KB.out).cell
      by_cases hi : i < nk
      · have hil : (i : Int) < (nk : Int) := by omega
        obtain ⟨h', n2, g2, o2, A2, c2, hA, c0, c1', c2', c3, c4, c5, hcc⟩ := HR.out.call HTK.out HGK.out (by have := HNB.out; omega) (by have := HLB.out; omega) HBB.out HTB.out HLT.out (by rw [← HNK.out]; exact hi)
        subst hA
        obtain ⟨j, hj⟩ : ∃ j, j = i + 1 := ⟨_, rfl⟩
        have e1 : IntKind.i64.wrap ((i : Int) + 1) = (j : Int) := by rw [IntKind.wrap_i64]; omega
        rw [← hj] at hcc
        have HJ := Lib.hid hj
        have CC := Lib.hid hcc
        simp only [hvv] at CC
        clear hj hcc hgx HR HS0
        go_wp2_with fail
        refine CC.out.mono ?_
        rintro e w2 ⟨A', n', c', rfl, hr⟩
        have HR := Lib.hid hr
        clear hr CC c0 c1' c2' c3 c4 c5 hbox
        go_wp2_with fail
        have hj := HJ.out
        go_roundg (nk - j)
        case measure => omega
        case rel => exact ⟨j, A', n', c', rfl, rfl, by omega, by omega, HR.out⟩
      · have hd1 : decide ((i : Int) < (nk : Int)) = false := decide_eq_false (by omega)
        obtain ⟨hl1, hl2⟩ := HR.out.last (by rw [← HNK.out]; omega)
        obtain ⟨ee, Kx, x1, x2, x3, lo', q1, q2, q3⟩ := hl1
        have FE : Hid (Named b B w K (nodesR it (.cons ⟨6, fro, til, word, at_⟩ k .nil) (R, L)) (N + 4 * (k.cnt + 1)) (.returned (.slice AL n0 cL)) wr) := by
          rw [nodesR, if_neg (by simp), if_neg (by simp), if_neg (by simp), if_pos rfl, nodesR]
          exact ⟨AL, cL, Kx, x1, x2, x3, _, by rw [HN0.out], q1.mono (by omega), G1.out.trans (GB.out.trans q2), NOLD.out.gx q2⟩
        clear q1 q2 q3 ee hl2 HR HS0 hgx
        go_wp2_with fail
        (first | go_ret | go_ret2 | go_end0)
        exact FE.out
  have b6 : (kd == 6) = false := by rw [beq_eq_false_iff_ne]; exact h6
  have HGK : Hid (Gd k) := by have := HGD.out; rw [Gd] at this; have h2 := this.2.2.2.1; rw [if_neg (by first | decide | omega)] at h2; exact h2
  have hm := M1.out
  have hnn := N1.out
  have HLT : Hid (∀ g, K g → B ≤ g ∧ g < W1.heap.size) := M1.out.lt
  have RB := Lib.hid (((Gx.refl K W1)).row R1.out K1.out)
  have KB : Hid (¬ K bx) := fun hk2 => by
      rcases ((Gx.refl K W1)).own bx hk2 with q | q
      · exact K1.out q
      · have := R1.out.lt; omega
  have HTB : Hid (TV W1 B k A cap) := T1.out.keep (((Gx.refl K W1)).old M1.out.lt B1.out)
  have HBB : Hid (B ≤ W1.heap.size) := Nat.le_trans B1.out ((Gx.refl K W1)).size
  have HS0 : Hid (LoopR b B it W1 K k (R, L) N 0 AL n0 cL W1) := ⟨⟨(R, L), N, ⟨by first | rfl | exact HN0.out | (rw [HN0.out]; rfl), K, _, _, _, _, M1.out, Gx.refl _ _, N1.out⟩, HW.out, by rw [Tr.drop_zero], by rw [Tr.drop_zero]; exact Nat.le_refl _, by rw [Tr.drop_zero]; exact Nat.le_refl _⟩⟩
  have GB := Lib.hid (Gx.refl K W1)
  obtain ⟨Kb, hKb⟩ : ∃ Kb, Kb = K := ⟨_, rfl⟩
  obtain ⟨Nb, hNb⟩ : ∃ Nb, Nb = N := ⟨_, rfl⟩
  have HNB : Hid (Nb + 4 * k.cnt ≤ 100000000) := by have := HN.out; unfold Hid; omega
  have HLB : Hid ((R, L).2.length + k.cnt ≤ 10000000) := by have := HL.out; show L.length + _ ≤ _; omega
  have HKB := Lib.hid hKb
  have HNBE := Lib.hid hNb
  have hbox := R1.out.cell
  clear hm hnn
  go_enter Try.func50, Try.ntmps50
  go_wp2_with fail
  rw [← HW1.out]
  try rw [← HBX.out]
  obtain ⟨Wb, hWb⟩ : ∃ Wb, Wb = W1 := ⟨_, rfl⟩
  rw [← HKB.out, ← HNBE.out] at HS0
  rw [← HKB.out] at HLT KB GB
  rw [← hWb] at HLT RB HTB HBB HS0 GB ⊢
  have HWB := Lib.hid hWb
  clear hWb hKb hNb hbox
  go_loopg [9, 10] (nk + 1) (fun kx s9 s10 wr => ∃ (i : Nat) (Ai : Option Addr) (ni ci : Nat), s9 = .slice Ai ni ci ∧ s10 = .int .i64 i ∧ nk - i ≤ kx ∧ i ≤ nk ∧ Hid (LoopR b B it Wb Kb k (R, L) Nb i Ai ni ci wr))
  case atStart => exact ⟨0, _, _, _, rfl, rfl, by omega, by omega, HS0.out⟩
  case round =>
    obtain ⟨i, Ai, ni, ci, rfl, rfl, hkx, hin, HR⟩ := hrel
    obtain ⟨Ki, hgx⟩ := HR.out.gx
    have hbox := (hgx.row RB.out KB.out).cell
    by_cases hi : i < nk
    · have hil : (i : Int) < (nk : Int) := by omega
      obtain ⟨h', n2, g2, o2, A2, c2, hA, c0, c1', c2', c3, c4, c5, hcc⟩ := HR.out.call HTK.out HGK.out (by have := HNB.out; omega) (by have := HLB.out; omega) HBB.out HTB.out HLT.out (by rw [← HNK.out]; exact hi)
      subst hA
      obtain ⟨j, hj⟩ : ∃ j, j = i + 1 := ⟨_, rfl⟩
      have e1 : IntKind.i64.wrap ((i : Int) + 1) = (j : Int) := by rw [IntKind.wrap_i64]; omega
      rw [← hj] at hcc
      have HJ := Lib.hid hj
      have CC := Lib.hid hcc
      simp only [hvv] at CC
      clear hj hcc hgx HR HS0
      go_wp2_with fail
      refine CC.out.mono ?_
      rintro e w2 ⟨A', n', c', rfl, hr⟩
      have HR := Lib.hid hr
      clear hr CC c0 c1' c2' c3 c4 c5 hbox
      go_wp2_with fail
      have hj := HJ.out
      go_roundg (nk - j)
      case measure => omega
      case rel => exact ⟨j, A', n', c', rfl, rfl, by omega, by omega, HR.out⟩
    · have hd1 : decide ((i : Int) < (nk : Int)) = false := decide_eq_false (by omega)
      obtain ⟨hl1, hl2⟩ := HR.out.last (by rw [← HNK.out]; omega)
      have FE : Hid (Named b B w K (nodesR it (.cons ⟨kd, fro, til, word, at_⟩ k .nil) (R, L)) (N + 4 * (k.cnt + 1)) (.returned (.slice Ai ni ci)) wr) := by
        rw [nodesR, if_neg h23, if_neg h8, if_neg h28, if_neg h6, if_neg h7, nodesR]
        exact hl1.named (by rw [HWB.out, HKB.out]; exact G1.out) (by rw [HNBE.out]; omega)
      clear hl1 hl2 HR HS0 hgx
      go_wp2_with fail
      (first | go_ret | go_ret2 | go_end0)
      exact FE.out
theorem tkr_all (b B : Nat) (it : Int) : ∀ k : Tr, TKR b B it k
  | .nil => fun i h kk r e => by rw [Tr.drop_nil] at e; cases e
  | .cons h' k' r' => fun i => match i with
    | 0 => fun h kk r e => by
      rw [Tr.drop] at e
      injection e with e1 e2 e3
      subst e1 e2 e3
      exact nodeR_any h' k' (tkr_all b B it k')
    | i + 1 => fun h kk r e => by
      rw [Tr.drop] at e
      exact tkr_all b B it r' i h kk r e
end Sc
end Go.Proofs.Ytnefnnoleeeedaa
namespace Go.Proofs.Ytnefnnoleeeedaa
open Go.RowKit Go.Op
namespace Sc
open Vm
open Sb
theorem ne64 (a k i : Int) (s : ByteArray) (w : World) : (binOp .neq 64 (.agg #[.int .i64 a, .int .i64 k, .string s, .int .i64 i]) (.agg #[.int .i64 a, .int .i64 k, .string s, .int .i64 i])).run Try.prog w = .ok (.bool false) w := by
  have u3 := Try.underlying3
  have a3 := Try.isAgg3
  have z3 := Try.sizeOf3
  have u9 := Try.underlying9
  have a9 := Try.isAgg9
  have z9 := Try.sizeOf9
  have hS : Try.prog.underlying 64 = some (.struct (Try.prog.fieldsOf 64)) := by kernel_rfl
  have hp : Try.prog.stoodInHeld 64 = false := by kernel_rfl
  rw [run_neq_struct, show (10000 : Nat) = 9999 + 1 from rfl, run_equalIn_agg w 9999 64 _ _ hS hp]
  simp only [Program.fieldsOf, Try.underlying64]
  go_simp
theorem ne65 (a t f : Int) (b : Bool) (w : World) : (binOp .neq 65 (.agg #[.int .i64 a, .int .i64 t, .bool b, .int .i64 f]) (.agg #[.int .i64 a, .int .i64 t, .bool b, .int .i64 f])).run Try.prog w = .ok (.bool false) w := by
  have u3 := Try.underlying3
  have a3 := Try.isAgg3
  have z3 := Try.sizeOf3
  have u9 := Try.underlying4
  have a9 := Try.isAgg4
  have z9 := Try.sizeOf4
  have hS : Try.prog.underlying 65 = some (.struct (Try.prog.fieldsOf 65)) := by kernel_rfl
  have hp : Try.prog.stoodInHeld 65 = false := by kernel_rfl
  rw [run_neq_struct, show (10000 : Nat) = 9999 + 1 from rfl, run_equalIn_agg w 9999 65 _ _ hS hp]
  simp only [Program.fieldsOf, Try.underlying65]
  go_simp
structure Sm (w wx : World) (b2 b3 : Nat) (bs : List Bd) (ms : List Mn) (bad : List (Int × Int)) (A1 A2 A3 B1 B2 B3 : Option Addr) (n1 n2 n3 c1 c2 c3 d1 d2 d3 : Nat) : Prop where
  r2 : RowB wx b2 34 #[.slice A1 n1 c1, .slice A2 n2 c2, .slice A3 n3 c3]
  r3 : RowB wx b3 40 #[.slice B1 n1 d1, .slice B2 n2 d2, .slice B3 n3 d3]
  p1 : RowAt wx 0 wx.heap.size bdC 4 A1 bs
  p2 : RowAt wx 0 wx.heap.size mnC 4 A2 ms
  p3 : RowAt wx 0 wx.heap.size baC 2 A3 bad
  q1 : RowAt wx 0 wx.heap.size bdC 4 B1 bs
  q2 : RowAt wx 0 wx.heap.size mnC 4 B2 ms
  q3 : RowAt wx 0 wx.heap.size baC 2 B3 bad
  be : Below w.heap.size w wx
theorem row_up {α : Type} {w w' : World} {f : α → List Value} {sz : Nat} {A : Option Addr} {l : List α} {lo hi : Nat} (h : RowAt w lo hi f sz A l) (hh : hi ≤ w.heap.size) (hb : Below w.heap.size w w') : RowAt w' lo w'.heap.size f sz A l := fun h0 => by
  obtain ⟨g, e, h1, h2, h3⟩ := h h0
  exact ⟨g, e, h1, by have := hb.size; omega, fun i x hx j u hj => (hb.cell (p := ⟨g, i * sz + j, none⟩) (by show g < _; omega)).trans (h3 i x hx j u hj)⟩
theorem Sm.below {w wx wy : World} {b2 b3 : Nat} {bs : List Bd} {ms : List Mn} {bad : List (Int × Int)} {A1 A2 A3 B1 B2 B3 : Option Addr} {n1 n2 n3 c1 c2 c3 d1 d2 d3 : Nat} (h : Sm w wx b2 b3 bs ms bad A1 A2 A3 B1 B2 B3 n1 n2 n3 c1 c2 c3 d1 d2 d3) (hb : Below wx.heap.size wx wy) : Sm w wy b2 b3 bs ms bad A1 A2 A3 B1 B2 B3 n1 n2 n3 c1 c2 c3 d1 d2 d3 :=
  ⟨h.r2.below hb h.r2.lt, h.r3.below hb h.r3.lt, row_up h.p1 (Nat.le_refl _) hb, row_up h.p2 (Nat.le_refl _) hb, row_up h.p3 (Nat.le_refl _) hb, row_up h.q1 (Nat.le_refl _) hb, row_up h.q2 (Nat.le_refl _) hb, row_up h.q3 (Nat.le_refl _) hb, h.be.trans (hb.mono h.be.size)⟩
set_option maxHeartbeats 40000000 in
set_option maxRecDepth 100000 in
theorem samer_any {w : World} (bs : List Bd) (ms : List Mn) (bad : List (Int × Int)) {A1 A2 A3 B1 B2 B3 : Option Addr} (c1 c2 c3 d1 d2 d3 : Nat) (p1 : RowAt w 0 w.heap.size bdC 4 A1 bs) (p2 : RowAt w 0 w.heap.size mnC 4 A2 ms) (p3 : RowAt w 0 w.heap.size baC 2 A3 bad) (q1 : RowAt w 0 w.heap.size bdC 4 B1 bs) (q2 : RowAt w 0 w.heap.size mnC 4 B2 ms) (q3 : RowAt w 0 w.heap.size baC 2 B3 bad) (hl : bs.length + ms.length + bad.length ≤ 100000000) :
    Calls Try.prog 9 #[.agg #[.slice A1 bs.length c1, .slice A2 ms.length c2, .slice A3 bad.length c3], .agg #[.slice B1 bs.length d1, .slice B2 ms.length d2, .slice B3 bad.length d3]] w fun e w' => e = .returned (.bool true) ∧ Below w.heap.size w w' := by
  obtain ⟨n1, hn1⟩ : ∃ n, n = bs.length := ⟨_, rfl⟩
  obtain ⟨n2, hn2⟩ : ∃ n, n = ms.length := ⟨_, rfl⟩
  obtain ⟨n3, hn3⟩ : ∃ n, n = bad.length := ⟨_, rfl⟩
  have HN := Lib.hid (show n1 = bs.length ∧ n2 = ms.length ∧ n3 = bad.length from ⟨hn1, hn2, hn3⟩)
  rw [← hn1, ← hn2, ← hn3] at hl ⊢
  obtain ⟨W1, hW1⟩ : ∃ W1, W1 = w.alloc (.cells #[.slice A1 n1 c1, .slice A2 n2 c2, .slice A3 n3 c3] 34) := ⟨_, rfl⟩
  obtain ⟨W2, hW2⟩ : ∃ W2, W2 = W1.alloc (.cells #[.slice B1 n1 d1, .slice B2 n2 d2, .slice B3 n3 d3] 40) := ⟨_, rfl⟩
  have b1 : Below w.heap.size w W1 := by rw [hW1]; exact belA w _
  have b2 : Below W1.heap.size W1 W2 := by rw [hW2]; exact belA W1 _
  have hs1 : W1.heap.size = w.heap.size + 1 := by rw [hW1]; simp
  have bb : Below w.heap.size w W2 := b1.trans (b2.mono b1.size)
  have HS := Lib.hid (show Sm w W2 w.heap.size (w.heap.size + 1) bs ms bad A1 A2 A3 B1 B2 B3 n1 n2 n3 c1 c2 c3 d1 d2 d3 from
    ⟨(show RowB W1 w.heap.size 34 _ by rw [hW1]; exact RowB.new w 34 _).below b2 (by omega), by rw [hW2, ← hs1]; exact RowB.new W1 40 _, row_up p1 (Nat.le_refl _) bb, row_up p2 (Nat.le_refl _) bb, row_up p3 (Nat.le_refl _) bb, row_up q1 (Nat.le_refl _) bb, row_up q2 (Nat.le_refl _) bb, row_up q3 (Nat.le_refl _) bb, bb⟩)
  have y2 := HS.out.r2.cell
  have y3 := HS.out.r3.cell
  have HW : Hid (W2 = (w.alloc (.cells #[.slice A1 n1 c1, .slice A2 n2 c2, .slice A3 n3 c3] 34)).alloc (.cells #[.slice B1 n1 d1, .slice B2 n2 d2, .slice B3 n3 d3] 40)) := by rw [hW2, hW1]; rfl
  rw [HW.out] at y2 y3
  clear p1 p2 p3 q1 q2 q3 hn1 hn2 hn3 hW1 hW2 b1 b2 hs1 bb
  go_enter Try.func9, Try.ntmps9
  go_wp2_with fail
  clear y2 y3
  rw [← HW.out]
  clear HW
  obtain ⟨b2, hb2⟩ : ∃ b2, b2 = w.heap.size := ⟨_, rfl⟩
  have HB2 := Lib.hid hb2
  obtain ⟨b3, hb3⟩ : ∃ b3, b3 = w.heap.size + 1 := ⟨_, rfl⟩
  have HB3 := Lib.hid hb3
  rw [← hb3, ← hb2] at HS ⊢
  clear hb2 hb3
  go_loopg [39] (n1 + 1) (fun kx s wr => ∃ (i : Nat), s = .int .i64 i ∧ n1 - i ≤ kx ∧ i ≤ n1 ∧ Hid (Sm w wr b2 b3 bs ms bad A1 A2 A3 B1 B2 B3 n1 n2 n3 c1 c2 c3 d1 d2 d3))
  case atStart => exact ⟨0, rfl, by omega, by omega, HS.out⟩
  case round =>
    clear HS
    obtain ⟨i, rfl, hkx, hin, HX⟩ := hrel
    by_cases hi : i < n1
    · have hil : (i : Int) < (n1 : Int) := by omega
      have hii : i < bs.length := by have := HN.out; omega
      obtain ⟨x, hx⟩ : ∃ x, bs[i]? = some x := ⟨bs[i], List.getElem?_eq_getElem hii⟩
      obtain ⟨g1, eg1, _, hg1, hc1⟩ := HX.out.p1 (by omega)
      obtain ⟨g2, eg2, _, hg2, hc2⟩ := HX.out.q1 (by omega)
      subst eg1 eg2
      obtain ⟨W5, hW5⟩ : ∃ W5, W5 = wr.alloc (.cells #[.int .i64 x.at_, .int .i64 x.kind, .string x.word, .int .i64 x.item] 45) := ⟨_, rfl⟩
      have b5 : Below wr.heap.size wr W5 := by rw [hW5]; exact belA wr _
      have HX5 := Lib.hid (HX.out.below b5)
      have R9 : RowB W5 wr.heap.size 45 #[.int .i64 x.at_, .int .i64 x.kind, .string x.word, .int .i64 x.item] := by rw [hW5]; exact RowB.new wr 45 _
      have z0 : wr.cell? ⟨g1, i * 4, none⟩ = some (.int .i64 x.at_) := hc1 i x hx 0 _ rfl
      have v0 : W5.cell? ⟨g2, i * 4, none⟩ = some (.int .i64 x.at_) := (b5.cell (p := ⟨g2, i * 4, none⟩) hg2).trans (hc2 i x hx 0 _ rfl)
      have z1 : wr.cell? ⟨g1, i * 4 + 1, none⟩ = some (.int .i64 x.kind) := hc1 i x hx 1 _ rfl
      have v1 : W5.cell? ⟨g2, i * 4 + 1, none⟩ = some (.int .i64 x.kind) := (b5.cell (p := ⟨g2, i * 4 + 1, none⟩) hg2).trans (hc2 i x hx 1 _ rfl)
      have z2 : wr.cell? ⟨g1, i * 4 + 2, none⟩ = some (.string x.word) := hc1 i x hx 2 _ rfl
      have v2 : W5.cell? ⟨g2, i * 4 + 2, none⟩ = some (.string x.word) := (b5.cell (p := ⟨g2, i * 4 + 2, none⟩) hg2).trans (hc2 i x hx 2 _ rfl)
      have z3 : wr.cell? ⟨g1, i * 4 + 3, none⟩ = some (.int .i64 x.item) := hc1 i x hx 3 _ rfl
      have v3 : W5.cell? ⟨g2, i * 4 + 3, none⟩ = some (.int .i64 x.item) := (b5.cell (p := ⟨g2, i * 4 + 3, none⟩) hg2).trans (hc2 i x hx 3 _ rfl)
      have y2 := HX.out.r2.cell
      have y3 := HX5.out.r3.cell
      have y9 := R9.cell
      have HW5 := Lib.hid hW5
      clear hc1 hc2 hx hg1 hg2 hii b5 hW5 R9 HX
      have hne := ne64 x.at_ x.kind x.item x.word
      go_wp2_with fail
      rw [← HW5.out]
      obtain ⟨bx, hbx⟩ : ∃ bx, bx = wr.heap.size := ⟨_, rfl⟩
      rw [← hbx] at y9 ⊢
      clear hbx z0 z1 z2 z3 y2
      go_quiet (fail)
      have HX6 := Lib.hid (HX5.out.below (wy := W5.drewN nq) ⟨rfl, rfl, rfl, Nat.le_refl _, fun _ _ => rfl⟩)
      clear HX5 y3 y9 hne v0 v1 v2 v3
      go_wp2_with fail
      have hw1 : IntKind.i64.wrap ((i : Int) + 1) = ((i + 1 : Nat) : Int) := by rw [IntKind.wrap_i64]; omega
      try rw [hw1]
      go_roundg (n1 - (i + 1))
      case measure => omega
      case rel => exact ⟨i + 1, rfl, by omega, by omega, HX6.out⟩
    · have hi2 : decide ((i : Int) < (n1 : Int)) = false := decide_eq_false (by omega)
      have HS := Lib.hid HX.out
      have y2 := HX.out.r2.cell
      have y3 := HX.out.r3.cell
      clear HX
      go_wp2_with fail
      clear y2 y3
      go_loopg [55] (n2 + 1) (fun kx s wr => ∃ (i : Nat), s = .int .i64 i ∧ n2 - i ≤ kx ∧ i ≤ n2 ∧ Hid (Sm w wr b2 b3 bs ms bad A1 A2 A3 B1 B2 B3 n1 n2 n3 c1 c2 c3 d1 d2 d3))
      case atStart => exact ⟨0, rfl, by omega, by omega, HS.out⟩
      case round =>
        clear HS
        obtain ⟨i, rfl, hkx, hin, HX⟩ := hrel
        by_cases hi : i < n2
        · have hil : (i : Int) < (n2 : Int) := by omega
          have hii : i < ms.length := by have := HN.out; omega
          obtain ⟨x, hx⟩ : ∃ x, ms[i]? = some x := ⟨ms[i], List.getElem?_eq_getElem hii⟩
          obtain ⟨g1, eg1, _, hg1, hc1⟩ := HX.out.p2 (by omega)
          obtain ⟨g2, eg2, _, hg2, hc2⟩ := HX.out.q2 (by omega)
          subst eg1 eg2
          obtain ⟨W5, hW5⟩ : ∃ W5, W5 = wr.alloc (.cells #[.int .i64 x.at_, .int .i64 x.to, .bool x.write, .int .i64 x.far] 47) := ⟨_, rfl⟩
          have b5 : Below wr.heap.size wr W5 := by rw [hW5]; exact belA wr _
          have HX5 := Lib.hid (HX.out.below b5)
          have R9 : RowB W5 wr.heap.size 47 #[.int .i64 x.at_, .int .i64 x.to, .bool x.write, .int .i64 x.far] := by rw [hW5]; exact RowB.new wr 47 _
          have z0 : wr.cell? ⟨g1, i * 4, none⟩ = some (.int .i64 x.at_) := hc1 i x hx 0 _ rfl
          have v0 : W5.cell? ⟨g2, i * 4, none⟩ = some (.int .i64 x.at_) := (b5.cell (p := ⟨g2, i * 4, none⟩) hg2).trans (hc2 i x hx 0 _ rfl)
          have z1 : wr.cell? ⟨g1, i * 4 + 1, none⟩ = some (.int .i64 x.to) := hc1 i x hx 1 _ rfl
          have v1 : W5.cell? ⟨g2, i * 4 + 1, none⟩ = some (.int .i64 x.to) := (b5.cell (p := ⟨g2, i * 4 + 1, none⟩) hg2).trans (hc2 i x hx 1 _ rfl)
          have z2 : wr.cell? ⟨g1, i * 4 + 2, none⟩ = some (.bool x.write) := hc1 i x hx 2 _ rfl
          have v2 : W5.cell? ⟨g2, i * 4 + 2, none⟩ = some (.bool x.write) := (b5.cell (p := ⟨g2, i * 4 + 2, none⟩) hg2).trans (hc2 i x hx 2 _ rfl)
          have z3 : wr.cell? ⟨g1, i * 4 + 3, none⟩ = some (.int .i64 x.far) := hc1 i x hx 3 _ rfl
          have v3 : W5.cell? ⟨g2, i * 4 + 3, none⟩ = some (.int .i64 x.far) := (b5.cell (p := ⟨g2, i * 4 + 3, none⟩) hg2).trans (hc2 i x hx 3 _ rfl)
          have y2 := HX.out.r2.cell
          have y3 := HX5.out.r3.cell
          have y9 := R9.cell
          have HW5 := Lib.hid hW5
          clear hc1 hc2 hx hg1 hg2 hii b5 hW5 R9 HX
          have hne := ne65 x.at_ x.to x.far x.write
          go_wp2_with fail
          rw [← HW5.out]
          obtain ⟨bx, hbx⟩ : ∃ bx, bx = wr.heap.size := ⟨_, rfl⟩
          rw [← hbx] at y9 ⊢
          clear hbx z0 z1 z2 z3 y2
          go_quiet (fail)
          have HX6 := Lib.hid (HX5.out.below (wy := W5.drewN nq) ⟨rfl, rfl, rfl, Nat.le_refl _, fun _ _ => rfl⟩)
          clear HX5 y3 y9 hne v0 v1 v2 v3
          go_wp2_with fail
          have hw1 : IntKind.i64.wrap ((i : Int) + 1) = ((i + 1 : Nat) : Int) := by rw [IntKind.wrap_i64]; omega
          try rw [hw1]
          go_roundg (n2 - (i + 1))
          case measure => omega
          case rel => exact ⟨i + 1, rfl, by omega, by omega, HX6.out⟩
        · have hi2 : decide ((i : Int) < (n2 : Int)) = false := decide_eq_false (by omega)
          have HS := Lib.hid HX.out
          have y2 := HX.out.r2.cell
          have y3 := HX.out.r3.cell
          clear HX
          go_wp2_with fail
          clear y2 y3
          go_loopg [71] (n3 + 1) (fun kx s wr => ∃ (i : Nat), s = .int .i64 i ∧ n3 - i ≤ kx ∧ i ≤ n3 ∧ Hid (Sm w wr b2 b3 bs ms bad A1 A2 A3 B1 B2 B3 n1 n2 n3 c1 c2 c3 d1 d2 d3))
          case atStart => exact ⟨0, rfl, by omega, by omega, HS.out⟩
          case round =>
            clear HS
            obtain ⟨i, rfl, hkx, hin, HX⟩ := hrel
            by_cases hi : i < n3
            · have hil : (i : Int) < (n3 : Int) := by omega
              have hii : i < bad.length := by have := HN.out; omega
              obtain ⟨x, hx⟩ : ∃ x, bad[i]? = some x := ⟨bad[i], List.getElem?_eq_getElem hii⟩
              obtain ⟨g1, eg1, _, hg1, hc1⟩ := HX.out.p3 (by omega)
              obtain ⟨g2, eg2, _, hg2, hc2⟩ := HX.out.q3 (by omega)
              subst eg1 eg2
              obtain ⟨W5, hW5⟩ : ∃ W5, W5 = wr.alloc (.cells #[.int .i64 x.1, .int .i64 x.2] 50) := ⟨_, rfl⟩
              have b5 : Below wr.heap.size wr W5 := by rw [hW5]; exact belA wr _
              have HX5 := Lib.hid (HX.out.below b5)
              have R9 : RowB W5 wr.heap.size 50 #[.int .i64 x.1, .int .i64 x.2] := by rw [hW5]; exact RowB.new wr 50 _
              have z0 : wr.cell? ⟨g1, i * 2, none⟩ = some (.int .i64 x.1) := hc1 i x hx 0 _ rfl
              have v0 : W5.cell? ⟨g2, i * 2, none⟩ = some (.int .i64 x.1) := (b5.cell (p := ⟨g2, i * 2, none⟩) hg2).trans (hc2 i x hx 0 _ rfl)
              have z1 : wr.cell? ⟨g1, i * 2 + 1, none⟩ = some (.int .i64 x.2) := hc1 i x hx 1 _ rfl
              have v1 : W5.cell? ⟨g2, i * 2 + 1, none⟩ = some (.int .i64 x.2) := (b5.cell (p := ⟨g2, i * 2 + 1, none⟩) hg2).trans (hc2 i x hx 1 _ rfl)
              have y2 := HX.out.r2.cell
              have y3 := HX5.out.r3.cell
              have y9 := R9.cell
              have HW5 := Lib.hid hW5
              clear hc1 hc2 hx hg1 hg2 hii b5 hW5 R9 HX
              have hne := True.intro
              go_wp2_with fail
              rw [← HW5.out]
              obtain ⟨bx, hbx⟩ : ∃ bx, bx = wr.heap.size := ⟨_, rfl⟩
              rw [← hbx] at y9 ⊢
              clear hbx z0 z1 y2
              go_quiet (fail)
              have HX6 := Lib.hid (HX5.out.below (wy := W5.drewN nq) ⟨rfl, rfl, rfl, Nat.le_refl _, fun _ _ => rfl⟩)
              clear HX5 y3 y9 hne v0 v1
              go_wp2_with fail
              have hw1 : IntKind.i64.wrap ((i : Int) + 1) = ((i + 1 : Nat) : Int) := by rw [IntKind.wrap_i64]; omega
              try rw [hw1]
              go_roundg (n3 - (i + 1))
              case measure => omega
              case rel => exact ⟨i + 1, rfl, by omega, by omega, HX6.out⟩
            · have hi2 : decide ((i : Int) < (n3 : Int)) = false := decide_eq_false (by omega)
              have HS := Lib.hid HX.out
              have y2 := HX.out.r2.cell
              have y3 := HX.out.r3.cell
              clear HX
              go_wp2_with fail
              (first | go_ret | go_ret2 | go_end0)
              exact ⟨rfl, HS.out.be⟩
end Sc
end Go.Proofs.Ytnefnnoleeeedaa
namespace Go.Proofs.Ytnefnnoleeeedaa
open Go.RowKit Go.Op
namespace Sc
open Vm
open Sb
variable {b B : Nat} {w wr : World} {K : Nat → Prop} {k : Tr} {N i n c : Nat} {A : Option Addr}
abbrev R0 : Rm × List Nm := (⟨[], [], []⟩, [])
structure ItemL (b B : Nat) (w : World) (K : Nat → Prop) (k : Tr) (N : Nat) (i : Nat) (A : Option Addr) (n c : Nat) (wr : World) : Prop where
  ex : ∃ (xi : Rm × List Nm) (Ni : Nat), Nmd b B w K xi Ni A n c wr ∧ WR xi ∧ bindItemsR i (k.drop i) xi = bindItemsR 0 k R0 ∧ Ni + 2 * (k.drop i).len ≤ N + 2 * k.len ∧ xi.2.length + (k.drop i).len ≤ k.len
theorem ItemL.gx (h : ItemL b B w K k N i A n c wr) : ∃ Ki, Gx K w Ki wr := by
  obtain ⟨xi, Ni, ⟨_, Ki, v1, v2, v3, lo, _, h2, _⟩, _⟩ := h
  exact ⟨Ki, h2⟩
theorem ItemL.last (h : ItemL b B w K k N i A n c wr) (hi : k.len ≤ i) : Nmd b B w K (bindItemsR 0 k R0) (N + 2 * k.len) A n c wr ∧ WR (bindItemsR 0 k R0) ∧ (bindItemsR 0 k R0).2.length ≤ k.len := by
  obtain ⟨xi, Ni, h1, h2, h3, h4, h5⟩ := h
  rw [Tr.drop_len k i hi] at h3 h4 h5
  rw [bindItemsR] at h3
  rw [← h3]
  obtain ⟨e, Ki, v1, v2, v3, lo, q1, q2, q3⟩ := h1
  exact ⟨⟨e, Ki, v1, v2, v3, lo, q1.mono (by simp only [Tr.len] at h4; omega), q2, q3⟩, h2, by simp only [Tr.len] at h5; omega⟩
theorem gdi_drop : ∀ (k : Tr) (i : Nat) {h : Hi} {kk r : Tr}, GdI k → k.drop i = .cons h kk r → (h.kind = 2 ∨ h.kind = 3 ∧ Lm kk)
  | .nil, i, h, kk, r, _, e => by rw [Tr.drop_nil] at e; cases e
  | .cons a b c, 0, h, kk, r, g, e => by
    rw [Tr.drop] at e
    injection e with e1 e2 e3
    subst e1 e2 e3
    rw [GdI] at g
    exact g.1
  | .cons a b c, i + 1, h, kk, r, g, e => by
    rw [Tr.drop] at e
    rw [GdI] at g
    exact gdi_drop c i g.2 e
theorem ItemL.call (hg : GdI k) (h : ItemL b B w K k N i A n c wr) (hN : N + 2 * k.len ≤ 100000000) (hL : k.len ≤ 10000000) (hB : B ≤ w.heap.size) {A0 : Option Addr} {cap0 : Nat} (ht : TV w B k A0 cap0) (hlt : ∀ g, K g → B ≤ g ∧ g < w.heap.size) (hi : i < k.len) :
    ∃ h' n2 g o A2 c2, A0 = some ⟨g, o, none⟩ ∧ wr.cell? ⟨g, o + i * 6, none⟩ = some (.int .i64 (Hi.kind h')) ∧ wr.cell? ⟨g, o + i * 6 + 1, none⟩ = some (.int .i64 h'.fro) ∧ wr.cell? ⟨g, o + i * 6 + 2, none⟩ = some (.int .i64 h'.til) ∧
      wr.cell? ⟨g, o + i * 6 + 3, none⟩ = some (.string h'.word) ∧ wr.cell? ⟨g, o + i * 6 + 4, none⟩ = some (.int .i64 h'.at_) ∧ wr.cell? ⟨g, o + i * 6 + 5, none⟩ = some (.slice A2 n2 c2) ∧ (h'.kind = 2 ∨ h'.kind = 3) ∧
      Calls Try.prog 25 #[.pointer (some ⟨b, 0, none⟩), .slice A n c, hvv h' A2 n2 c2, .int .i64 (h'.kind - 1), .int .i64 i] wr fun e w' => ∃ A' n' c', e = .returned (.slice A' n' c') ∧ ItemL b B w K k N (i + 1) A' n' c' w' ∧ w'.cell? ⟨g, o + i * 6, none⟩ = some (.int .i64 h'.kind) := by
  obtain ⟨⟨xR, xL⟩, Ni, ⟨e0, Ki, v1, v2, v3, lo, q1, q2, q3⟩, h2, h3, h4, h5⟩ := h
  simp only at e0 q1 q3 h4 h5
  obtain ⟨h', kk, e⟩ := Tr.drop_cons k i hi
  have hold := q2.old hlt hB
  obtain ⟨hword, g, o, A2, c2, rfl, hg', hkk, c0, c1, c2', c3, c4, c5⟩ := TV.nth (ht.keep hold) e
  have hkd := gdi_drop k i hg e
  have hcn : (k.drop i).len = (k.drop (i + 1)).len + 1 := by rw [e, Tr.len]
  refine ⟨h', _, g, o, A2, c2, rfl, c0, c1, c2', c3, c4, c5, hkd.imp id (fun h => h.1), ?_⟩
  subst e0
  obtain ⟨wn, _, hw⟩ := h2
  refine (bindr_any q1 q3 (by omega) wn hw h' A2 _ c2 (h'.kind - 1) i (by omega)).mono ?_
  rintro e2 w2 ⟨A', c', K', u1, u2, u3, lo', rfl, r1, r2, r3⟩
  refine ⟨A', _, c', rfl, ⟨_, _, ⟨rfl, K', u1, u2, u3, lo', r1, q2.trans r2, r3⟩, WR.bind ⟨wn, by assumption, hw⟩ _ _ _ _, ?_, by omega, ?_⟩, ?_⟩
  · rw [← h3, e, bindItemsR]
    rcases hkd with hk | ⟨hk, _⟩
    · rw [if_pos hk, hk]; rfl
    · rw [if_neg (by omega), if_pos hk, hk]; rfl
  · rw [(bindR_len _ _ _ _ _).2]
    show xL.length + 1 + _ ≤ _
    omega
  · exact (World.cell?_of_block (w := wr) (r2.old q1.lt (Nat.le_trans hB q2.size) g hg')).trans c0
structure CloseL (b B : Nat) (w : World) (K : Nat → Prop) (k : Tr) (x : Rm × List Nm) (N : Nat) (i : Nat) (A : Option Addr) (n c : Nat) (wr : World) : Prop where
  ex : ∃ (Ri : Rm) (Ni : Nat), Nmd b B w K (Ri, x.2) Ni A n c wr ∧ WR (Ri, x.2) ∧ (closeItemsR i (k.drop i) (Ri, x.2)).1 = (closeItemsR 0 k x).1 ∧ Ni + 4 * (k.drop i).cnt ≤ N + 4 * k.cnt
theorem CloseL.gx {x : Rm × List Nm} (h : CloseL b B w K k x N i A n c wr) : ∃ Ki, Gx K w Ki wr := by
  obtain ⟨xi, Ni, ⟨_, Ki, v1, v2, v3, lo, _, h2, _⟩, _⟩ := h
  exact ⟨Ki, h2⟩
theorem CloseL.last {x : Rm × List Nm} (h : CloseL b B w K k x N i A n c wr) (hi : k.len ≤ i) : ∃ Kx v1 v2 v3, Mr b B wr Kx (closeItemsR 0 k x).1 (N + 4 * k.cnt) v1 v2 v3 ∧ Gx K w Kx wr := by
  obtain ⟨xi, Ni, h1, h2, h3, h4⟩ := h
  rw [Tr.drop_len k i hi] at h3 h4
  rw [closeItemsR] at h3
  rw [← h3]
  obtain ⟨e, Ki, v1, v2, v3, lo, q1, q2, q3⟩ := h1
  exact ⟨Ki, v1, v2, v3, q1.mono (by simp only [Tr.cnt] at h4; omega), q2⟩
theorem CloseL.call {x : Rm × List Nm} (hg : GdI k) (h : CloseL b B w K k x N i A n c wr) (hN : N + 4 * k.cnt ≤ 100000000) (hL : x.2.length + k.cnt ≤ 10000000) (hB : B ≤ w.heap.size) {A0 : Option Addr} {cap0 : Nat} (ht : TV w B k A0 cap0) (hlt : ∀ g, K g → B ≤ g ∧ g < w.heap.size) (hi : i < k.len) :
    ∃ h' n2 g o A2 c2, A0 = some ⟨g, o, none⟩ ∧ wr.cell? ⟨g, o + i * 6, none⟩ = some (.int .i64 (Hi.kind h')) ∧ wr.cell? ⟨g, o + i * 6 + 5, none⟩ = some (.slice A2 n2 c2) ∧ (h'.kind = 2 ∨ h'.kind = 3) ∧
      (h'.kind = 2 → CloseL b B w K k x N (i + 1) A n c wr) ∧
      (h'.kind = 3 → Calls Try.prog 26 #[.pointer (some ⟨b, 0, none⟩), .slice A n c, .slice A2 n2 c2, .int .i64 i, .bool false] wr fun e w' => e = .returned (.tuple #[]) ∧ CloseL b B w K k x N (i + 1) A n c w') := by
  obtain ⟨Ri, Ni, ⟨e0, Ki, v1, v2, v3, lo, q1, q2, q3⟩, h2, h3, h4⟩ := h
  simp only at e0 q1 q3
  obtain ⟨h', kk, e⟩ := Tr.drop_cons k i hi
  have hold := q2.old hlt hB
  obtain ⟨hword, g, o, A2, c2, rfl, hg', hkk, c0, c1, c2', c3, c4, c5⟩ := TV.nth (ht.keep hold) e
  have hkd := gdi_drop k i hg e
  have hcn : (k.drop i).cnt = kk.cnt + (k.drop (i + 1)).cnt + 1 := by rw [e, Tr.cnt]
  have hdc := Tr.drop_cnt k i
  refine ⟨h', _, g, o, A2, c2, rfl, c0, c5, hkd.imp id (fun h => h.1), fun h6 => ⟨Ri, Ni, ⟨e0, Ki, v1, v2, v3, lo, q1, q2, q3⟩, h2, ?_, by omega⟩, fun h6 => ?_⟩
  · rw [← h3, e, closeItemsR, if_neg (by omega)]
  · obtain ⟨_, hlm⟩ : h'.kind = 3 ∧ Lm kk := by rcases hkd with hk | hk; omega; exact hk
    have hl2 : (lamR i false kk (Ri, x.2)).2 = x.2 := by
      match kk, hlm with
      | .cons _ kp (.cons _ _ (.cons hb kb .nil)), _ => rw [lamR]
    subst e0
    refine (closedR_any kk (tkr_all b B i kk) wr Ki Ri Ni v1 v2 v3 lo A c x.2 A2 c2 false q1 q3 h2 hlm (by omega) (by omega) hkk (Nat.le_trans hB q2.size)).mono ?_
    rintro e2 w2 ⟨rfl, K', u1, u2, u3, r1, r2⟩
    have hpair : lamR i false kk (Ri, x.2) = ((lamR i false kk (Ri, x.2)).1, x.2) := Prod.ext rfl hl2
    refine ⟨rfl, (lamR i false kk (Ri, x.2)).1, _, ⟨rfl, K', u1, u2, u3, lo, r1, q2.trans r2, q3.gx r2⟩, ?_, ?_, by omega⟩
    · have := (lamR_ok i false kk (Ri, x.2) h2).1
      rw [hpair] at this
      exact this
    · rw [← h3, e, closeItemsR, if_pos h6, ← hpair]
def BadL (w : World) (lo : Nat) (A : Option Addr) (c : Nat) (l : List (Int × Int)) : Prop := RowAt w lo w.heap.size baC 2 A l ∧ l.length ≤ c ∧ (A = none → c = 0) ∧ ∀ a, A = some a → ∃ g, a = ⟨g, 0, none⟩
theorem BadL.below {w w' : World} {lo : Nat} {A : Option Addr} {c : Nat} {l : List (Int × Int)} (h : BadL w lo A c l) (hb : Below w.heap.size w w') : BadL w' lo A c l := ⟨row_up h.1 (Nat.le_refl _) hb, h.2⟩
theorem info67 : (Try.prog.info? 67).map (fun i => (i.zero, i.size, i.bytes)) = some (some (.agg #[.int .i64 0, .int .i64 0]), 2, 16) := by kernel_rfl
theorem flat_ba (M : List (Int × Int)) : (M.flatMap baC).length = M.length * 2 := by
  induction M with
  | nil => rfl
  | cons x r ih => rw [List.flatMap_cons, List.length_append, ih, List.length_cons]; simp; omega
set_option maxRecDepth 100000 in
theorem app_sl {w : World} {B : Nat} {v : Value} {n : Nat} {xs : List Value} (ho : w.ownsRow B 67 2 v n xs) (hB : B ≤ w.heap.size) (A : Option Addr) (m c : Nat) (news : List (Int × Int)) (hm : news.length = m) (hn : n + m ≤ 1000000000) (hA : A = none → m = 0 ∧ c = 0)
    (hc : ∀ a, A = some a → ∀ j u, (news.flatMap baC)[j]? = some u → w.cell? (a.add j) = some u) (ty : TypeId) :
    ∃ v' w', (Builtin.append_ #[38, 38] ty #[v, .slice A m c]).run Try.prog w = .ok v' w' ∧ w'.ownsRow B 67 2 v' (n + m) (xs ++ news.flatMap baC) ∧ w.grownBy w' v.ownBlock := by
  have hi := info67
  cases hi' : Try.prog.info? 67 with
  | none => rw [hi'] at hi; cases hi
  | some i =>
    rw [hi'] at hi
    simp only [Option.map_some, Option.some.injEq, Prod.mk.injEq] at hi
    have h38 : Try.prog.underlying 38 = some (.slice 67) := by kernel_rfl
    cases A with
    | none =>
      obtain ⟨rfl, rfl⟩ := hA rfl
      have : news = [] := List.length_eq_zero_iff.1 hm
      subst this
      refine ⟨v, w, run_append_owned_none w B 38 ty 67 i 2 h38 hi' v n xs ho, by simpa using ho, ⟨rfl, rfl, rfl, Nat.le_refl _, fun _ _ _ => rfl⟩⟩
    | some a =>
      obtain ⟨v', w', a1, a2, a3, _, _⟩ := run_append_own_at (P := Try.prog) w B 38 ty 67 i _ 2 16 h38 hi' hi.1 hi.2.1 hi.2.2 rfl (by decide) v n xs ho a m c (news.flatMap baC)
        (by rw [flat_ba, hm]) (hc a rfl) (fun u hu => by
          obtain ⟨x, _, hx⟩ := List.mem_flatMap.1 hu
          simp at hx
          rcases hx with rfl | rfl <;> rfl) (by simp only [maxLen]; omega) (by omega) hB
      exact ⟨v', w', a1, a2, a3⟩
theorem grown_below {w w0 w' : World} {v : Value} {e s n : Nat} {xs : List Value} (h : Below w0.heap.size w0 w) (ho : w.ownsRow w0.heap.size e s v n xs) (hg : w.grownBy w' v.ownBlock) : Below w0.heap.size w0 w' :=
  ⟨hg.os.trans h.os, hg.tape.trans h.tape, hg.output.trans h.output, Nat.le_trans h.size hg.size, fun g h1 => (hg.block g (Nat.lt_of_lt_of_le h1 h.size) (fun e => by have := (ho.lt g e.symm).1; omega)).trans (h.block g h1)⟩
set_option maxRecDepth 100000 in
theorem bad_round {w : World} {lo : Nat} {A : Option Addr} {c : Nat} {l : List (Int × Int)} (h : BadL w lo A c l) (hlo : lo ≤ w.heap.size) (hl : l.length ≤ 100000000) (x : Int × Int) (p : Nat) (hp : p ≤ l.length) (A' : Option Addr) (c' : Nat) (hA' : A = none → A' = none ∧ c' = 0) (hA2 : ∀ g, A = some ⟨g, 0, none⟩ → (∃ a, A' = some a) ∧ (p < l.length → A' = some ⟨g, p * 2, none⟩)) :
    ∃ v1 w1 v2 w3 A4 c4 w4, (Builtin.append_ #[38, 38] 38 #[.slice none 0 0, .slice A p c]).run Try.prog w = .ok v1 w1 ∧ (Builtin.append_ #[38, 38] 38 #[v1, .slice (some ⟨w1.heap.size, 0, none⟩) 1 1]).run Try.prog (w1.alloc (.cells #[.int .i64 x.1, .int .i64 x.2] 67)) = .ok v2 w3 ∧
      (Builtin.append_ #[38, 38] 38 #[v2, .slice A' (l.length - p) c']).run Try.prog w3 = .ok (.slice A4 (l.length + 1) c4) w4 ∧ BadL w4 lo A4 c4 (l.take p ++ [x] ++ l.drop p) ∧ Below w.heap.size w w1 ∧ Below w.heap.size w w3 ∧ Below w.heap.size w w4 := by
  have ho0 : w.ownsRow w.heap.size 67 2 (.slice none 0 0) 0 [] := ⟨rfl, .inl ⟨rfl, rfl⟩⟩
  have hcell : ∀ W, Below w.heap.size w W → ∀ g, A = some ⟨g, 0, none⟩ → ∀ q y, l[q]? = some y → ∀ j u, (baC y)[j]? = some u → W.cell? ⟨g, q * 2 + j, none⟩ = some u := fun W hW g e q y hy j u hj => by
    obtain ⟨g', e', _, h2, h3⟩ := h.1 (by have := (List.getElem?_eq_some_iff.1 hy).1; omega)
    rw [e] at e'
    injection e' with e'
    injection e' with e'
    subst e'
    exact (hW.cell (p := ⟨g, q * 2 + j, none⟩) h2).trans (h3 q y hy j u hj)
  have hadd : ∀ (g o j : Nat), (⟨g, o, none⟩ : Addr).add j = ⟨g, o + j, none⟩ := fun g o j => by unfold Addr.add; split <;> simp_all
  obtain ⟨v1, w1, hr1, ho1, hg1⟩ := app_sl ho0 (Nat.le_refl _) A p c (l.take p) (by rw [List.length_take]; omega) (by omega) (fun e => by have := h.2.2.1 e; have := h.2.1; omega) (fun a e j u hu => by
    obtain ⟨q, y, o, e1, e2, e3⟩ := flat_cell (sz := 2) (fun _ => rfl) _ _ _ hu
    obtain ⟨g, rfl⟩ := h.2.2.2 a e
    rw [hadd, e3, Nat.zero_add]
    have hq : l[q]? = some y := by
      rw [List.getElem?_take] at e1
      split at e1
      · exact e1
      · cases e1
    exact hcell w (Below.refl _ _) g e q y hq o u e2) 38
  rw [Nat.zero_add, List.nil_append] at ho1
  have B1 : Below w.heap.size w w1 := grown_below (Below.refl _ _) ho0 hg1
  obtain ⟨W2, hW2⟩ : ∃ W2, W2 = w1.alloc (.cells #[.int .i64 x.1, .int .i64 x.2] 67) := ⟨_, rfl⟩
  have ho2 : W2.ownsRow w.heap.size 67 2 v1 p ((l.take p).flatMap baC) := by
    rw [hW2]
    exact own_block ho1 fun g e => Below.heap_alloc w1 _ g (ho1.lt g e).2
  have RN : RowB W2 w1.heap.size 67 #[.int .i64 x.1, .int .i64 x.2] := by rw [hW2]; exact RowB.new w1 67 _
  have B2 : Below w.heap.size w W2 := by rw [hW2]; exact B1.alloc B1.size _
  obtain ⟨v2, w3, hr2, ho3, hg2, _⟩ := app_at (w := W2) (t := 38) (e := 67) (size := 2) (bytes := 16) (by kernel_rfl) info67 rfl (by decide) (by decide) w.heap.size v1 _ _ ho2 _ _ RN rfl (by intro u hu; simp at hu; rcases hu with rfl | rfl <;> rfl) (by omega) B2.size 38
  have B3 : Below w.heap.size w w3 := grown_below B2 ho2 hg2
  obtain ⟨v3, w4, hr3, ho4, hg3⟩ := app_sl ho3 B3.size A' (l.length - p) c' (l.drop p) (by rw [List.length_drop]) (by omega) (fun e => by
    cases hA : A with
    | none => have := h.2.2.1 hA; have := h.2.1; exact ⟨by omega, (hA' hA).2⟩
    | some a =>
      obtain ⟨g, rfl⟩ := h.2.2.2 a hA
      obtain ⟨⟨a', ha'⟩, _⟩ := hA2 g hA
      rw [ha'] at e
      cases e) (fun a e j u hu => by
    obtain ⟨q, y, o, e1, e2, e3⟩ := flat_cell (sz := 2) (fun _ => rfl) _ _ _ hu
    rw [List.getElem?_drop] at e1
    have hpl : p < l.length := by have := (List.getElem?_eq_some_iff.1 e1).1; omega
    cases hA : A with
    | none => rw [(hA' hA).1] at e; cases e
    | some a0 =>
      obtain ⟨g, rfl⟩ := h.2.2.2 a0 hA
      have e4 := (hA2 g hA).2 hpl
      rw [e] at e4
      injection e4 with e4
      subst e4
      rw [hadd, e3, show p * 2 + (q * 2 + o) = (p + q) * 2 + o by omega]
      exact hcell w3 B3 g hA _ y e1 o u e2) 38
  obtain ⟨A4, c4, rfl, hc4⟩ := own_shape ho4
  have B4 : Below w.heap.size w w4 := grown_below B3 ho3 hg3
  have hlen : p + 1 + (l.length - p) = l.length + 1 := by omega
  have hxs : (l.take p).flatMap baC ++ (#[Value.int .i64 x.1, .int .i64 x.2] : Array Value).toList ++ (l.drop p).flatMap baC = (l.take p ++ [x] ++ l.drop p).flatMap baC := by
    rw [List.flatMap_append, List.flatMap_append]; rfl
  rw [hxs] at ho4
  have hll : p + 1 + (l.length - p) = (l.take p ++ [x] ++ l.drop p).length := by simp; omega
  have hrow := RowAt.of_own ho4 (fun _ => rfl) hll
  rw [hlen] at ho4 hr3 hc4
  refine ⟨v1, w1, v2, w3, A4, c4, w4, hr1, by rw [← hW2]; exact hr2, hr3, ⟨fun h0 => ?_, by rw [← hll, hlen]; exact hc4, fun e => ?_, fun a e => ?_⟩, B1, B3, B4⟩
  · obtain ⟨g, e, h1, h2, h3⟩ := hrow h0
    exact ⟨g, e, by omega, h2, h3⟩
  · subst e
    rcases ho4.2 with ⟨_, e2⟩ | ⟨g, cap, cur, e2, _⟩
    · exact absurd e2 (by omega)
    · cases e2
  · subst e
    rcases ho4.2 with ⟨e2, _⟩ | ⟨g, cap, cur, e2, _⟩
    · cases e2
    · injection e2 with e2
      injection e2 with e2
      exact ⟨g, e2⟩
theorem sz67 (w : World) : (sizeOf (Try.prog.elem 38)).run Try.prog w = .ok 2 w := by kernel_rfl
theorem u38 : Try.prog.underlying 38 = some (.slice (Try.prog.elem 38)) := by kernel_rfl
theorem sl_h {A : Option Addr} {c i p : Nat} (hp : p ≤ c) (hA : ∀ a, A = some a → ∃ g, a = ⟨g, 0, none⟩) (w : World) : (Instr.slice 38 (.slice A i c) none (some (.int .i64 (p : Int))) none).run Try.prog w = .ok (.slice A p c) w := by
  rw [run_slice_h w 38 A i c u38 .i64 (p : Int) (by omega) (by omega), sz67]
  simp only [Result.andThen, sliced, Int.toNat_natCast, Nat.zero_mul, Nat.sub_zero]
  congr 1
  cases A with
  | none => simp
  | some a =>
    obtain ⟨g, rfl⟩ := hA a rfl
    simp [Addr.add]
def cutA (A : Option Addr) (c p : Nat) : Option Addr := if c = p then A else A.map (·.add (p * 2))
theorem sl_l {A : Option Addr} {c i p : Nat} (hp : p ≤ i) (_hi : i ≤ c) (w : World) : (Instr.slice 38 (.slice A i c) (some (.int .i64 (p : Int))) none none).run Try.prog w = .ok (.slice (cutA A c p) (i - p) (c - p)) w := by
  rw [run_slice_l w 38 A i c u38 .i64 (p : Int) (by omega) (by omega), sz67]
  simp only [Result.andThen, sliced, Int.toNat_natCast, cutA]
theorem cutA_none {c p : Nat} : cutA none c p = none := by unfold cutA; split <;> rfl
theorem cutA_some {g c p : Nat} : ∃ a, cutA (some ⟨g, 0, none⟩) c p = some a := by unfold cutA; split; exact ⟨_, rfl⟩; exact ⟨_, rfl⟩
theorem cutA_lt {g c p : Nat} (h : p < c) : cutA (some ⟨g, 0, none⟩) c p = some ⟨g, p * 2, none⟩ := by
  unfold cutA
  rw [if_neg (by omega)]
  simp [Addr.add]
  omega
structure AppR (ty : TypeId) (vs vx : Value) (w : World) (v' : Value) (w' : World) : Prop where
  run : (Builtin.append_ #[38, 38] ty #[vs, vx]).run Try.prog w = .ok v' w'
theorem wpl_app (w : World) {ops : Array Oper} {rest : List Oper} {o : Oper} {a : Act} {Q : Exit → Act → World → Prop} (hgd : o.guard = none) (s x : Operand)
    (ho : o.op = .call { callee := .builtin .append, args := #[s, x], argTypes := #[38, 38] }) (ty : TypeId) (hty : o.type = ty) (vs vx : Value) (hs : a.eval s = vs) (hx : a.eval x = vx)
    (v' : Value) (w' : World) (hr : AppR ty vs vx w v' w') (h : wpList Try.prog ops Q rest (a.put o.dst v') w') : wpList Try.prog ops Q (o :: rest) a w := by
  subst hty
  exact Lib.wpList_append_run w hgd s x 38 38 ho vs vx hs hx v' w' hr.run h
theorem posR_drop {l : List (Int × Int)} {x : Int} {p : Nat} {y : Int × Int} (h : l[p]? = some y) : posR l x (p + 1) = if x < y.1 then posR l x p else p + 1 := by
  rw [posR, h]
  rfl
end Sc
end Go.Proofs.Ytnefnnoleeeedaa
namespace Go.Proofs.Ytnefnnoleeeedaa
open Go.RowKit Go.Op
namespace Sc
open Vm
open Sb
def OfR (w : World) (R : Rm) (e : Ending) (w' : World) : Prop :=
  ∃ A1 c1 A2 c2 A3 c3, e = .returned (.agg #[.slice A1 R.bs.length c1, .slice A2 R.ms.length c2, .slice A3 R.bad.length c3]) ∧ RowAt w' w.heap.size w'.heap.size bdC 4 A1 R.bs ∧ RowAt w' w.heap.size w'.heap.size mnC 4 A2 R.ms ∧ RowAt w' w.heap.size w'.heap.size baC 2 A3 (sortR [] R.bad) ∧ R.bs.length + R.ms.length + R.bad.length ≤ 100000000 ∧ Below w.heap.size w w'
structure SortL (Wc : World) (bad : List (Int × Int)) (i : Nat) (A : Option Addr) (c : Nat) (wr : World) : Prop where
  ex : ∃ l : List (Int × Int), l.length = i ∧ BadL wr Wc.heap.size A c l ∧ sortR l (bad.drop i) = sortR [] bad
  be : Below Wc.heap.size Wc wr
theorem SortL.done {Wc wr : World} {bad : List (Int × Int)} {i : Nat} {A : Option Addr} {c : Nat} (h : SortL Wc bad i A c wr) (hi : i = bad.length) : RowAt wr Wc.heap.size wr.heap.size baC 2 A (sortR [] bad) ∧ (sortR [] bad).length = bad.length := by
  obtain ⟨⟨l, h1, h2, h3⟩, _⟩ := h
  rw [List.drop_eq_nil_of_le (by omega), sortR] at h3
  subst h3
  exact ⟨h2.1, by omega⟩
def setR (w : World) (h : Nat) (a b c : Value) : World := ((w.setCell ⟨h, 0, none⟩ a).setCell ⟨h, 1, none⟩ b).setCell ⟨h, 2, none⟩ c
theorem setR_block (w : World) (h : Nat) (a b c : Value) {g : Nat} (hg : g ≠ h) : (setR w h a b c).heap[g]? = w.heap[g]? :=
  (Below.heap_setCell _ ⟨h, 2, none⟩ _ g hg).trans ((Below.heap_setCell _ ⟨h, 1, none⟩ _ g hg).trans (Below.heap_setCell _ ⟨h, 0, none⟩ _ g hg))
theorem setR_size (w : World) (h : Nat) (a b c : Value) : (setR w h a b c).heap.size = w.heap.size := by simp [setR, World.setCell]
theorem row_fin {α : Type} {Wc W : World} {lo hi lo' hi' : Nat} {f : α → List Value} {sz : Nat} {A : Option Addr} {l : List α} (h : RowAt Wc lo hi f sz A l) (hl : lo' ≤ lo) (hh : hi ≤ hi') (hb : ∀ g, A = some ⟨g, 0, none⟩ → lo ≤ g → g < hi → W.heap[g]? = Wc.heap[g]?) : RowAt W lo' hi' f sz A l := fun h0 => by
  obtain ⟨g, e, h1, h2, h3⟩ := h h0
  exact ⟨g, e, by omega, by omega, fun i x hx j u hj => (World.cell?_of_block (w := Wc) (hb g e h1 h2)).trans (h3 i x hx j u hj)⟩
set_option maxHeartbeats 40000000 in
set_option maxRecDepth 100000 in
theorem ofr_any {w : World} (h : Hi) (k : Tr) (A : Option Addr) (cap : Nat) (ht : TV w w.heap.size k A cap) (hg : GdI k) (hc : k.cnt ≤ 1000000) : Calls Try.prog 11 #[hvv h A k.len cap] w (OfR w (fileR k)) := by
  obtain ⟨kd, fro, til, word, at_⟩ := h
  simp only [hvv]
  have hkl := Tr.len_cnt k
  have HK : Hid (k.len ≤ k.cnt ∧ k.cnt ≤ 1000000) := ⟨hkl, hc⟩
  obtain ⟨n, hn⟩ : ∃ n, n = k.len := ⟨_, rfl⟩
  have HNK := Lib.hid hn
  rw [← hn]
  have hn2 : n ≤ 1000000 := by omega
  obtain ⟨W1, hW1⟩ : ∃ W1, W1 = w.alloc (.cells #[.int .i64 kd, .int .i64 fro, .int .i64 til, .string word, .int .i64 at_, .slice A n cap] 25) := ⟨_, rfl⟩
  obtain ⟨W2, hW2⟩ : ∃ W2, W2 = W1.alloc (.cells #[.slice none 0 0, .slice none 0 0, .slice none 0 0] 40) := ⟨_, rfl⟩
  obtain ⟨W3, hW3⟩ : ∃ W3, W3 = W2.alloc (.cells #[.slice none 0 0, .slice none 0 0, .slice none 0 0] 40) := ⟨_, rfl⟩
  have S1 : W1.heap.size = w.heap.size + 1 := by rw [hW1]; simp
  have S2 : W2.heap.size = w.heap.size + 2 := by rw [hW2]; simp [S1]
  have S3 : W3.heap.size = w.heap.size + 3 := by rw [hW3]; simp [S2]
  have r1 : RowB W3 w.heap.size 25 #[.int .i64 kd, .int .i64 fro, .int .i64 til, .string word, .int .i64 at_, .slice A n cap] := by rw [hW3, hW2, hW1]; exact ((RowB.new w 25 _).alloc _).alloc _
  have r2 : RowB W3 (w.heap.size + 1) 40 #[.slice none 0 0, .slice none 0 0, .slice none 0 0] := by
    have := RowB.new W1 40 #[.slice none 0 0, .slice none 0 0, .slice none 0 0]
    rw [S1, ← hW2] at this
    rw [hW3]
    exact this.alloc _
  have r3 : RowB W3 (w.heap.size + 2) 40 #[.slice none 0 0, .slice none 0 0, .slice none 0 0] := by
    have := RowB.new W2 40 #[.slice none 0 0, .slice none 0 0, .slice none 0 0]
    rw [S2, ← hW3] at this
    exact this
  have hB3 : Below w.heap.size w W3 := by rw [hW3, hW2, hW1]; exact ((belA w _).alloc (by simp) _).alloc (by simp; omega) _
  have HW3 : Hid (W3 = ((w.alloc (.cells #[.int .i64 kd, .int .i64 fro, .int .i64 til, .string word, .int .i64 at_, .slice A n cap] 25)).alloc (.cells #[.slice none 0 0, .slice none 0 0, .slice none 0 0] 40)).alloc (.cells #[.slice none 0 0, .slice none 0 0, .slice none 0 0] 40)) := by rw [hW3, hW2, hW1]; rfl
  have HM : Hid (Mr (w.heap.size + 2) w.heap.size W3 (fun g => g = w.heap.size + 2) ⟨[], [], []⟩ 0 (.slice none 0 0) (.slice none 0 0) (.slice none 0 0)) :=
    ⟨r3, World.ownsRow_nil _ _ _ _, World.ownsRow_nil _ _ _ _, World.ownsRow_nil _ _ _ _, Nat.le_refl _, rfl, (fun g e => by cases e), (fun g e => by cases e), (fun g e => by cases e), (fun g e => by omega)⟩
  have HI : Hid (ItemL (w.heap.size + 2) w.heap.size W3 (fun g => g = w.heap.size + 2) k 0 0 none 0 0 W3) := ⟨⟨R0, 0, ⟨rfl, _, _, _, _, 0, HM.out, Gx.refl _ _, ⟨⟨fun h => absurd h (by simp), by simp, fun _ => rfl⟩, fun h => absurd h (by simp)⟩⟩, ⟨[], rfl, trivial⟩, by rw [Tr.drop_zero], by rw [Tr.drop_zero]; exact Nat.le_refl _, by rw [Tr.drop_zero]; simp⟩⟩
  have HT := Lib.hid (ht.keep (Old.of hB3))
  have HG := Lib.hid hg
  have HRA := Lib.hid r1
  have HRB := Lib.hid r2
  have HS3 := Lib.hid S3
  have HB3 := Lib.hid hB3
  obtain ⟨Kb, hKb⟩ : ∃ Kb : Nat → Prop, Kb = fun g => g = w.heap.size + 2 := ⟨_, rfl⟩
  have HKB : Hid (∀ g, Kb g → g = w.heap.size + 2) := fun g hg => by rw [hKb] at hg; exact hg
  rw [← hKb] at HI
  have HLT : Hid (∀ g, Kb g → w.heap.size ≤ g ∧ g < W3.heap.size) := fun g hg => by have := HKB.out g hg; omega
  have HNA : Hid (¬ Kb w.heap.size) := fun hk => by have := HKB.out _ hk; omega
  have HNB : Hid (¬ Kb (w.heap.size + 1)) := fun hk => by have := HKB.out _ hk; omega
  have HBW : Hid (w.heap.size ≤ W3.heap.size) := hB3.size
  clear ht hg hkl hc hn hW1 hW2 hW3 S1 S2 S3 r1 r2 r3 hB3 HM hKb
  go_enter Try.func11, Try.ntmps11
  go_wp2_with fail
  rw [← HW3.out]
  obtain ⟨bn, hbn⟩ : ∃ bn, bn = w.heap.size := ⟨_, rfl⟩
  have HBN := Lib.hid hbn
  rw [← hbn] at HI HLT HRA HRB HT HKB HNA HNB HBW HS3 ⊢
  obtain ⟨bm, hbm⟩ : ∃ bm, bm = bn + 2 := ⟨_, rfl⟩
  have HBM := Lib.hid hbm
  rw [← hbm] at HI HKB ⊢
  obtain ⟨br, hbr⟩ : ∃ br, br = bn + 1 := ⟨_, rfl⟩
  have HBR := Lib.hid hbr
  rw [← hbr] at HRB HNB ⊢
  clear hbn hbm hbr HW3
  go_loopg [4, 5] (n + 1) (fun kx s4 s5 wr => ∃ (i : Nat) (Ai : Option Addr) (ni ci : Nat), s4 = .slice Ai ni ci ∧ s5 = .int .i64 i ∧ n - i ≤ kx ∧ i ≤ n ∧ Hid (ItemL bm bn W3 Kb k 0 i Ai ni ci wr))
  case atStart => exact ⟨0, _, _, _, rfl, rfl, by omega, by omega, HI.out⟩
  case round =>
    clear HI
    obtain ⟨i, Ai, ni, ci, rfl, rfl, hkx, hin, HR⟩ := hrel
    obtain ⟨Ki, hgx⟩ := HR.out.gx
    have hbox := (hgx.row HRA.out HNA.out).cell
    by_cases hi : i < n
    · have hil : (i : Int) < (n : Int) := by omega
      obtain ⟨h', n2, g2, o2, A2, c2, hA, c0, c1, c2', c3, c4, c5, hkd, hcc⟩ := HR.out.call HG.out (by have := HK.out; omega) (by have := HK.out; omega) HBW.out HT.out HLT.out (by rw [← HNK.out]; exact hi)
      subst hA
      obtain ⟨j, hj⟩ : ∃ j, j = i + 1 := ⟨_, rfl⟩
      have e1 : IntKind.i64.wrap ((i : Int) + 1) = (j : Int) := by rw [IntKind.wrap_i64]; omega
      rw [← hj] at hcc
      have HJ := Lib.hid hj
      obtain ⟨kd', fro', til', word', at'⟩ := h'
      simp only at c0 c1 c2' c3 c4 hkd hcc
      clear hj hgx HR
      rcases hkd with rfl | rfl
      · have CC := Lib.hid hcc
        simp only [hvv, Int.reduceSub] at CC
        clear hcc
        go_wp2_with fail
        refine CC.out.mono ?_
        rintro e w2 ⟨A', n', c', rfl, hr, hz⟩
        obtain ⟨K2, hgx2⟩ := hr.gx
        have HR := Lib.hid hr
        have hbox2 := (hgx2.row HRA.out HNA.out).cell
        clear hr CC c0 c1 c2' c3 c4 c5 hbox hgx2
        go_wp2_with fail
        have hj := HJ.out
        go_roundg (n - j)
        case measure => omega
        case rel => exact ⟨j, A', n', c', rfl, rfl, by omega, by omega, HR.out⟩
      · have CC := Lib.hid hcc
        simp only [hvv, Int.reduceSub] at CC
        clear hcc
        go_wp2_with fail
        refine CC.out.mono ?_
        rintro e w2 ⟨A', n', c', rfl, hr, hz⟩
        have HR := Lib.hid hr
        clear hr CC c0 c1 c2' c3 c4 c5 hbox hz
        go_wp2_with fail
        have hj := HJ.out
        go_roundg (n - j)
        case measure => omega
        case rel => exact ⟨j, A', n', c', rfl, rfl, by omega, by omega, HR.out⟩
    · have hd1 : decide ((i : Int) < (n : Int)) = false := decide_eq_false (by omega)
      obtain ⟨hl1, hl2, hl3⟩ := HR.out.last (by rw [← HNK.out]; omega)
      have HC : Hid (CloseL bm bn W3 Kb k (bindItemsR 0 k R0) (2 * k.len) 0 Ai ni ci wr) := by
        obtain ⟨ee, Kx, x1, x2, x3, lo', q1, q2, q3⟩ := hl1
        exact ⟨⟨(bindItemsR 0 k R0).1, 2 * k.len, ⟨ee, Kx, x1, x2, x3, lo', q1.mono (by omega), q2, q3⟩, hl2, by rw [Tr.drop_zero], by rw [Tr.drop_zero]; exact Nat.le_refl _⟩⟩
      have HL3 := Lib.hid hl3
      clear hl1 hl2 hl3 hgx HR hin hkx
      go_wp2_with fail
      clear hbox hd1 hi
      go_loopg [6] (n + 1) (fun kx s6 wr => ∃ (i : Nat), s6 = .int .i64 i ∧ n - i ≤ kx ∧ i ≤ n ∧ Hid (CloseL bm bn W3 Kb k (bindItemsR 0 k R0) (2 * k.len) i Ai ni ci wr))
      case atStart => exact ⟨0, rfl, by omega, by omega, HC.out⟩
      case round =>
        clear HC
        obtain ⟨i, rfl, hkx, hin, HR⟩ := hrel
        obtain ⟨Ki, hgx⟩ := HR.out.gx
        have hbox := (hgx.row HRA.out HNA.out).cell
        by_cases hi : i < n
        · have hil : (i : Int) < (n : Int) := by omega
          obtain ⟨h', n2, g2, o2, A2, c2, hA, c0, c5, hkd, hc2, hc3⟩ := HR.out.call HG.out (by have := HK.out; omega) (by have := HK.out; have := HL3.out; omega) HBW.out HT.out HLT.out (by rw [← HNK.out]; exact hi)
          subst hA
          obtain ⟨j, hj⟩ : ∃ j, j = i + 1 := ⟨_, rfl⟩
          have e1 : IntKind.i64.wrap ((i : Int) + 1) = (j : Int) := by rw [IntKind.wrap_i64]; omega
          rw [← hj] at hc2 hc3
          have HJ := Lib.hid hj
          obtain ⟨kd', fro', til', word', at'⟩ := h'
          simp only at c0 hkd hc2 hc3
          clear hj hgx HR
          rcases hkd with rfl | rfl
          · have HR := Lib.hid (hc2 rfl)
            clear hc2 hc3
            go_wp2_with fail
            have hj := HJ.out
            go_roundg (n - j)
            case measure => omega
            case rel => exact ⟨j, rfl, by omega, by omega, HR.out⟩
          · have CC := Lib.hid (hc3 rfl)
            clear hc2 hc3
            go_wp2_with fail
            refine CC.out.mono ?_
            rintro e w2 ⟨rfl, hr⟩
            have HR := Lib.hid hr
            clear hr CC c0 c5 hbox
            go_wp2_with fail
            have hj := HJ.out
            go_roundg (n - j)
            case measure => omega
            case rel => exact ⟨j, rfl, by omega, by omega, HR.out⟩
        · have hd1 : decide ((i : Int) < (n : Int)) = false := decide_eq_false (by omega)
          obtain ⟨Kx, x1, x2, x3, hm, hgx2⟩ := HR.out.last (by rw [← HNK.out]; omega)
          have HM : Hid (Mr bm bn wr Kx (fileR k) (2 * k.len + 4 * k.cnt) x1 x2 x3) := hm
          have HX := Lib.hid hgx2
          clear hm hgx2 hgx HR hin hkx
          obtain ⟨R, hR⟩ : ∃ R, R = fileR k := ⟨_, rfl⟩
          have HRE := Lib.hid hR
          rw [← hR] at HM
          obtain ⟨nb, hnb⟩ : ∃ nb, nb = R.bad.length := ⟨_, rfl⟩
          have HNB2 := Lib.hid hnb
          obtain ⟨A3, c3, hx3, hc3⟩ := own_shape HM.out.o3
          subst hx3
          obtain ⟨A1, c1, hx1, _⟩ := own_shape HM.out.o1
          subst hx1
          obtain ⟨A2, c2, hx2, _⟩ := own_shape HM.out.o2
          subst hx2
          have hsum := HM.out.sum
          have hnb2 : nb ≤ 6000000 := by have := HK.out; omega
          have HSUM := Lib.hid hsum
          have r3 := HM.out.row
          have ro3 := RowAt.of_own HM.out.o3 (fun _ => rfl) rfl
          rw [← hnb] at r3
          have HR3 := Lib.hid r3
          have HO3 := Lib.hid ro3
          have HC3 := Lib.hid hc3
          obtain ⟨Wc, hWc⟩ : ∃ Wc, Wc = wr := ⟨_, rfl⟩
          have HWC := Lib.hid hWc
          rw [← hWc] at HM HX HR3 HO3 hbox ⊢
          have HSL : Hid (SortL Wc R.bad 0 none 0 Wc) := ⟨⟨[], rfl, ⟨fun h => absurd h (by simp), Nat.le_refl _, fun _ => rfl, fun a e => by cases e⟩, by rw [List.drop_zero]⟩, Below.refl _ _⟩
          clear hR hnb hc3 hsum r3 ro3 hWc
          go_wp2_with fail
          clear hbox hd1 hi
          go_loopg [7, 8] (nb + 1) (fun kx s7 s8 wr => ∃ (i : Nat) (Ab : Option Addr) (cb : Nat), s7 = .slice Ab i cb ∧ s8 = .int .i64 i ∧ nb - i ≤ kx ∧ i ≤ nb ∧ Hid (SortL Wc R.bad i Ab cb wr))
          case atStart => exact ⟨0, none, 0, rfl, rfl, by omega, by omega, HSL.out⟩
          case round =>
            clear HSL
            obtain ⟨i, Ab, cb, rfl, rfl, hkx, hin, HR⟩ := hrel
            have hbm := (HR3.out.below HR.out.be HR3.out.lt).cell
            by_cases hi : i < nb
            · have hil : (i : Int) < (nb : Int) := by omega
              obtain ⟨x, hx⟩ : ∃ x, R.bad[i]? = some x := ⟨R.bad[i]'(by rw [← HNB2.out]; exact hi), List.getElem?_eq_getElem _⟩
              obtain ⟨g3, eA3, _, hg3, hc3⟩ := HO3.out (by rw [← HNB2.out]; omega)
              subst eA3
              have HZ : Hid (∀ wq, Below Wc.heap.size Wc wq → wq.cell? ⟨g3, i * 2, none⟩ = some (.int .i64 x.1) ∧ wq.cell? ⟨g3, i * 2 + 1, none⟩ = some (.int .i64 x.2)) := fun wq hb => ⟨(hb.cell (p := ⟨g3, i * 2, none⟩) hg3).trans (hc3 i x hx 0 _ rfl), (hb.cell (p := ⟨g3, i * 2 + 1, none⟩) hg3).trans (hc3 i x hx 1 _ rfl)⟩
              obtain ⟨⟨l, hl1, hl2, hl3⟩, hbe⟩ := HR.out
              have HBE := Lib.hid hbe
              have HL1 := Lib.hid hl1
              have HL2 := Lib.hid hl2
              have HL3' : Hid (∀ p, posR l x.1 i = p → sortR (l.take p ++ [x] ++ l.drop p) (R.bad.drop (i + 1)) = sortR [] R.bad) := fun p hp => by
                rw [← hl3]
                obtain ⟨hi', hxe⟩ := List.getElem?_eq_some_iff.1 hx
                rw [List.drop_eq_getElem_cons hi', hxe, sortR]
                unfold insR
                rw [hl1, hp]
              clear hx hg3 hc3 hl1 hl2 hl3 hbe HR
              go_wp2_with fail
              clear hbm
              obtain ⟨WO, rfl⟩ : ∃ WO, WO = wr := ⟨_, rfl⟩
              go_loopg [9] (i + 1) (fun kx s9 wr => ∃ (p : Nat), s9 = .int .i64 p ∧ p ≤ kx ∧ p ≤ i ∧ Hid (posR l x.1 i = posR l x.1 p) ∧ Hid (Below WO.heap.size WO wr))
              case atStart => exact ⟨i, rfl, by omega, by omega, rfl, Below.refl _ _⟩
              case round =>
                obtain ⟨p, rfl, hkp, hpi, HP, HQ⟩ := hrel
                have HBQ : Hid (Below Wc.heap.size Wc wr) := HBE.out.trans (HQ.out.mono HBE.out.size)
                have hbm := (HR3.out.below HBQ.out HR3.out.lt).cell
                obtain ⟨hz0, hz1⟩ := HZ.out wr HBQ.out
                by_cases hp0 : p = 0
                · have hp : posR l x.1 i = p := by rw [HP.out, hp0]; rfl
                  have hgt : decide (0 < p) = false := by rw [hp0]; rfl
                  clear hp0
                  go_wp2_with fail
                  go_quiet (fail)
                  obtain ⟨WQ, hWQ⟩ : ∃ WQ, WQ = wr.drewN nq := ⟨_, rfl⟩
                  have HBQ2 : Hid (Below Wc.heap.size Wc WQ) := by rw [hWQ]; exact HBQ.out.trans ⟨rfl, rfl, rfl, Nat.le_refl _, fun _ _ => rfl⟩
                  have HLQ : Hid (BadL WQ Wc.heap.size Ab cb l) := by rw [hWQ]; exact (HL2.out.below HQ.out).below ⟨rfl, rfl, rfl, Nat.le_refl _, fun _ _ => rfl⟩
                  rw [← hWQ]
                  clear hWQ hbm hz0 hz1
                  obtain ⟨v1, w1, v2, w3, A4, c4, w4, hr1, hr2, hr3, hbl, hb1, hb3, hb4⟩ := bad_round HLQ.out HBQ2.out.size (by have := HL1.out; omega) x p (by have := HL1.out; omega) (cutA Ab cb p) (cb - p) (fun e => by rw [e]; exact ⟨cutA_none, by have := HLQ.out.2.2.1 e; omega⟩) (fun g e => by rw [e]; exact ⟨cutA_some, fun hpl => cutA_lt (by have := HLQ.out.2.1; omega)⟩)
                  rw [HL1.out] at hr3
                  have hsl1 := fun wx => sl_h (i := i) (p := p) (A := Ab) (c := cb) (by have := HLQ.out.2.1; have := HL1.out; omega) HLQ.out.2.2.2 wx
                  have hsl2 := fun wx => sl_l (i := i) (p := p) (A := Ab) (c := cb) (by omega) (by have := HLQ.out.2.1; have := HL1.out; omega) wx
                  have HS2 : Hid (SortL Wc R.bad (i + 1) A4 c4 w4) := ⟨⟨_, by first | (simp [HL1.out]; done) | (simp [HL1.out]; omega), hbl, HL3'.out p hp⟩, HBQ2.out.trans (hb4.mono HBQ2.out.size)⟩
                  have hb5 := HBQ2.out.trans (hb1.mono HBQ2.out.size)
                  have hbm := (HR3.out.below hb5 HR3.out.lt).cell
                  obtain ⟨hz0, hz1⟩ := HZ.out w1 hb5
                  have HR1 := Lib.hid (AppR.mk hr1)
                  have HR2 := Lib.hid (AppR.mk hr2)
                  have HR3' := Lib.hid (AppR.mk hr3)
                  obtain ⟨m2, hm2⟩ : ∃ m2, m2 = i - p := ⟨_, rfl⟩
                  obtain ⟨k2, hk2⟩ : ∃ k2, k2 = cb - p := ⟨_, rfl⟩
                  rw [← hm2, ← hk2] at hsl2 HR3'
                  obtain ⟨Ac, hAc⟩ : ∃ Ac, Ac = cutA Ab cb p := ⟨_, rfl⟩
                  rw [← hAc] at hsl2 HR3'
                  clear hb1 hb3 hb4 hb5 hbl hr1 hr2 hr3 hm2 hk2 hAc hp hgt
                  go_wp2_with (at_builtin; first | refine wpl_app _ rfl _ _ rfl _ rfl _ _ rfl rfl _ _ HR1.out ?_ | refine wpl_app _ rfl _ _ rfl _ rfl _ _ rfl rfl _ _ HR2.out ?_ | refine wpl_app _ rfl _ _ rfl _ rfl _ _ rfl rfl _ _ HR3'.out ?_)
                  have hw1 : IntKind.i64.wrap ((i : Int) + 1) = ((i + 1 : Nat) : Int) := by rw [IntKind.wrap_i64]; omega
                  try rw [hw1]
                  go_roundg (nb - (i + 1))
                  case measure => omega
                  case rel => exact ⟨i + 1, A4, c4, rfl, rfl, by omega, by omega, HS2.out⟩
                · obtain ⟨q, hq⟩ : ∃ q, p = q + 1 := ⟨p - 1, by omega⟩
                  have HPQ := Lib.hid hq
                  have hgt : 0 < p := by omega
                  have ew : IntKind.i64.wrap ((p : Int) - 1) = (q : Int) := by rw [IntKind.wrap_i64]; omega
                  have ew2 : (p : Int) - 1 = (q : Int) := by omega
                  have hql : (q : Int) < (i : Int) := by omega
                  obtain ⟨y, hy⟩ : ∃ y, l[q]? = some y := ⟨l[q]'(by have := HL1.out; omega), List.getElem?_eq_getElem _⟩
                  obtain ⟨gb, eAb, _, hgb, hcb⟩ := HL2.out.1 (by have := HL1.out; omega)
                  have hzb : wr.cell? ⟨gb, q * 2, none⟩ = some (.int .i64 y.1) := (HQ.out.cell (p := ⟨gb, q * 2, none⟩) hgb).trans (hcb q y hy 0 _ rfl)
                  have hstep := posR_drop (x := x.1) hy
                  have HEA := Lib.hid eAb
                  have HY := Lib.hid hy
                  clear hq hcb hgb hy eAb
                  by_cases hlt : x.1 < y.1
                  · have hcmp : decide (x.1 < y.1) = true := decide_eq_true hlt
                    rw [if_pos hlt] at hstep
                    have HST := Lib.hid hstep
                    rw [HEA.out]
                    clear hstep hlt
                    go_wp2_with fail
                    go_quiet (fail)
                    rw [← HEA.out]
                    have HQ2 : Hid (Below WO.heap.size WO (wr.drewN nq)) := HQ.out.trans ⟨rfl, rfl, rfl, Nat.le_refl _, fun _ _ => rfl⟩
                    clear hbm hz0 hz1 hzb
                    go_wp2_with fail
                    try rw [ew]
                    go_roundg q
                    case measure => have := HPQ.out; omega
                    case rel => exact ⟨q, rfl, by omega, by have := HPQ.out; omega, by unfold Hid; rw [HP.out, HPQ.out]; exact HST.out, HQ2.out⟩
                  · have hcmp : decide (x.1 < y.1) = false := decide_eq_false hlt
                    rw [if_neg hlt] at hstep
                    have hp : posR l x.1 i = p := by rw [HP.out, HPQ.out]; exact hstep
                    rw [HEA.out]
                    clear hstep hlt
                    go_wp2_with fail
                    go_quiet (fail)
                    rw [← HEA.out]
                    obtain ⟨WQ, hWQ⟩ : ∃ WQ, WQ = wr.drewN nq := ⟨_, rfl⟩
                    have HBQ2 : Hid (Below Wc.heap.size Wc WQ) := by rw [hWQ]; exact HBQ.out.trans ⟨rfl, rfl, rfl, Nat.le_refl _, fun _ _ => rfl⟩
                    have HLQ : Hid (BadL WQ Wc.heap.size Ab cb l) := by rw [hWQ]; exact (HL2.out.below HQ.out).below ⟨rfl, rfl, rfl, Nat.le_refl _, fun _ _ => rfl⟩
                    rw [← hWQ]
                    clear hWQ hbm hz0 hz1 hzb hcmp
                    obtain ⟨v1, w1, v2, w3, A4, c4, w4, hr1, hr2, hr3, hbl, hb1, hb3, hb4⟩ := bad_round HLQ.out HBQ2.out.size (by have := HL1.out; omega) x p (by have := HL1.out; omega) (cutA Ab cb p) (cb - p) (fun e => by rw [e]; exact ⟨cutA_none, by have := HLQ.out.2.2.1 e; omega⟩) (fun g e => by rw [e]; exact ⟨cutA_some, fun hpl => cutA_lt (by have := HLQ.out.2.1; omega)⟩)
                    rw [HL1.out] at hr3
                    have hsl1 := fun wx => sl_h (i := i) (p := p) (A := Ab) (c := cb) (by have := HLQ.out.2.1; have := HL1.out; omega) HLQ.out.2.2.2 wx
                    have hsl2 := fun wx => sl_l (i := i) (p := p) (A := Ab) (c := cb) (by omega) (by have := HLQ.out.2.1; have := HL1.out; omega) wx
                    have HS2 : Hid (SortL Wc R.bad (i + 1) A4 c4 w4) := ⟨⟨_, by first | (simp [HL1.out]; done) | (simp [HL1.out]; omega), hbl, HL3'.out p hp⟩, HBQ2.out.trans (hb4.mono HBQ2.out.size)⟩
                    have hb5 := HBQ2.out.trans (hb1.mono HBQ2.out.size)
                    have hbm := (HR3.out.below hb5 HR3.out.lt).cell
                    obtain ⟨hz0, hz1⟩ := HZ.out w1 hb5
                    have HR1 := Lib.hid (AppR.mk hr1)
                    have HR2 := Lib.hid (AppR.mk hr2)
                    have HR3' := Lib.hid (AppR.mk hr3)
                    obtain ⟨m2, hm2⟩ : ∃ m2, m2 = i - p := ⟨_, rfl⟩
                    obtain ⟨k2, hk2⟩ : ∃ k2, k2 = cb - p := ⟨_, rfl⟩
                    rw [← hm2, ← hk2] at hsl2 HR3'
                    obtain ⟨Ac, hAc⟩ : ∃ Ac, Ac = cutA Ab cb p := ⟨_, rfl⟩
                    rw [← hAc] at hsl2 HR3'
                    clear hb1 hb3 hb4 hb5 hbl hr1 hr2 hr3 hm2 hk2 hAc hp hgt
                    go_wp2_with (at_builtin; first | refine wpl_app _ rfl _ _ rfl _ rfl _ _ rfl rfl _ _ HR1.out ?_ | refine wpl_app _ rfl _ _ rfl _ rfl _ _ rfl rfl _ _ HR2.out ?_ | refine wpl_app _ rfl _ _ rfl _ rfl _ _ rfl rfl _ _ HR3'.out ?_)
                    have hw1 : IntKind.i64.wrap ((i : Int) + 1) = ((i + 1 : Nat) : Int) := by rw [IntKind.wrap_i64]; omega
                    try rw [hw1]
                    go_roundg (nb - (i + 1))
                    case measure => omega
                    case rel => exact ⟨i + 1, A4, c4, rfl, rfl, by omega, by omega, HS2.out⟩
            · have hd1 : decide ((i : Int) < (nb : Int)) = false := decide_eq_false (by omega)
              have hib : i = nb := by omega
              obtain ⟨hrow, hlen⟩ := HR.out.done (by rw [← HNB2.out]; exact hib)
              have HBE := Lib.hid HR.out.be
              have HM2 := Lib.hid HM.out
              have hbrK : ¬ Kx br := fun hk => by
                rcases HX.out.own br hk with h1 | h1
                · exact HNB.out h1
                · have := HS3.out; have := HBR.out; omega
              have hrb : RowB wr br 40 #[.slice none 0 0, .slice none 0 0, .slice none 0 0] := (HX.out.row HRB.out HNB.out).below HBE.out (HX.out.row HRB.out HNB.out).lt
              have hlm := HR3.out.lt
              have hrm : RowB wr bm 40 _ := HR3.out.below HBE.out hlm
              have hlb : br < Wc.heap.size := (HX.out.row HRB.out HNB.out).lt
              have hne : br ≠ bm := by have := HBR.out; have := HBM.out; omega
              obtain ⟨W6, hW6⟩ : ∃ W6, W6 = wr.setCell ⟨bm, 2, none⟩ (.slice Ab i cb) := ⟨_, rfl⟩
              have hrm6 : RowB W6 bm 40 #[.slice A1 R.bs.length c1, .slice A2 R.ms.length c2, .slice Ab i cb] := by rw [hW6]; exact hrm.put 2 _
              have hrb6 : RowB W6 br 40 #[.slice none 0 0, .slice none 0 0, .slice none 0 0] := by rw [hW6]; exact (Below.heap_setCell wr ⟨bm, 2, none⟩ _ br hne).trans hrb
              have hW : Below w.heap.size w Wc := ⟨HX.out.os.trans HB3.out.os, HX.out.tape.trans HB3.out.tape, HX.out.output.trans HB3.out.output, Nat.le_trans HB3.out.size HX.out.size, fun g hg => (HX.out.block g (by have := HB3.out.size; omega) (fun hk => by have := HKB.out g hk; have := HBM.out; have := HBN.out; omega)).trans (HB3.out.block g hg)⟩
              have h6 : Below w.heap.size w W6 := by rw [hW6]; exact (hW.trans (HBE.out.mono hW.size)).setCell (by show _ ≤ bm; have := HBM.out; have := HBN.out; omega) _
              have hs6 : W6.heap.size = wr.heap.size := by rw [hW6]; simp [World.setCell]
              have key : ∀ u1 u2 u3 g, g ≠ bm → g ≠ br → (setR W6 br u1 u2 u3).heap[g]? = wr.heap[g]? := fun u1 u2 u3 g g1 g2 => (setR_block W6 br u1 u2 u3 g2).trans (by rw [hW6]; exact Below.heap_setCell wr ⟨bm, 2, none⟩ _ g g1)
              have key2 : ∀ u1 u2 u3 g, g < Wc.heap.size → g ≠ bm → g ≠ br → (setR W6 br u1 u2 u3).heap[g]? = Wc.heap[g]? := fun u1 u2 u3 g g0 g1 g2 => (key u1 u2 u3 g g1 g2).trans (HBE.out.block g g0)
              have hwn : w.heap.size ≤ bn := by have := HBN.out; omega
              have FE : Hid (∀ u1 u2 u3, OfR w R (.returned (.agg #[.slice A1 R.bs.length c1, .slice A2 R.ms.length c2, .slice Ab i cb])) (setR W6 br u1 u2 u3)) := fun u1 u2 u3 => by
                refine ⟨A1, c1, A2, c2, Ab, cb, by rw [hib, HNB2.out], ?_, ?_, ?_, by have := HSUM.out; have := HK.out; omega, ?_⟩
                · refine row_fin (RowAt.of_own HM.out.o1 (fun _ => rfl) rfl) hwn (by rw [setR_size, hs6]; exact HBE.out.size) fun g e _ g2 => key2 u1 u2 u3 g g2 (fun e2 => own_ne_row HM.out.o1 HM.out.row (by decide) (by rw [e, e2]; rfl)) (fun e2 => hbrK (HM.out.k1 br (by rw [e, e2]; rfl)))
                · refine row_fin (RowAt.of_own HM.out.o2 (fun _ => rfl) rfl) hwn (by rw [setR_size, hs6]; exact HBE.out.size) fun g e _ g2 => key2 u1 u2 u3 g g2 (fun e2 => own_ne_row HM.out.o2 HM.out.row (by decide) (by rw [e, e2]; rfl)) (fun e2 => hbrK (HM.out.k2 br (by rw [e, e2]; rfl)))
                · exact row_fin hrow (by have := hW.size; omega) (by rw [setR_size, hs6]; exact Nat.le_refl _) fun g e g1 _ => key u1 u2 u3 g (by omega) (by omega)
                · unfold setR
                  exact ((h6.setCell (p := ⟨br, 0, none⟩) (by show _ ≤ br; have := HBR.out; omega) _).setCell (p := ⟨br, 1, none⟩) (by show _ ≤ br; have := HBR.out; omega) _).setCell (p := ⟨br, 2, none⟩) (by show _ ≤ br; have := HBR.out; omega) _
              have y5 := hrm.cell
              have y5t := hrm.thaw
              have y6 := hrm6.cell
              have y7 := hrb6.cell
              have y7t := hrb6.thaw
              have y8 := hrb.cell
              have HB6 := Lib.hid hrb6
              have HW6 := Lib.hid hW6
              rw [hW6] at y6 y7 y7t
              clear hrow hlen hbrK hrb hlm hrm hlb hne hrm6 hrb6 hW h6 hs6 key key2 hwn hW6 HM HM2 HR hbm hib hin hkx
              go_wp2_with fail
              try rw [← HW6.out]
              have y9 := (((HB6.out.put 0 (.slice A1 R.bs.length c1)).put 1 (.slice A2 R.ms.length c2)).put 2 (.slice Ab i cb)).cell
              refine bodyPost_ret (v := .agg #[.slice A1 R.bs.length c1, .slice A2 R.ms.length c2, .slice Ab i cb]) ?_ rfl (by rw [← HRE.out]; exact FE.out _ _ _)
              simp [results, Try.results11, go_sem, y9]
              try first | rfl | exact ⟨rfl, rfl⟩
end Sc
end Go.Proofs.Ytnefnnoleeeedaa
namespace Go.Proofs.Ytnefnnoleeeedaa
open Go.RowKit Go.Op
namespace Sc
open Vm
open Sb
end Sc
end Go.Proofs.Ytnefnnoleeeedaa
namespace Go.Proofs.Ytnefnnoleeeedaa
open Go.RowKit Go.Op
namespace Sc
open Vm
open Ps Pg
def NoLoc (bs : List Bd) (v : Int) : Prop := ∀ i : Nat, v = (i : Int) → ∀ b, bs[i]? = some b → ¬ 2 < b.kind
theorem NoLoc.ext {bs l : List Bd} {v : Int} (h : NoLoc bs v) (hv : v < (bs.length : Int)) : NoLoc (bs ++ l) v := fun i e b hb => by
  rw [ext_get (by omega)] at hb
  exact h i e b hb
structure Out0 (In : Int → Int → Prop) (len : Int) (s : St) : Prop where
  bd : ∀ b ∈ s.bs, Bok In len b
  mn : ∀ u ∈ s.ms, Mok In s.bs u
  me : ∀ x, s.means x < (s.bs.length : Int) ∧ NoLoc s.bs (s.means x)
  he : ∀ x v, s.here x = some v → v < (s.bs.length : Int) ∧ NoLoc s.bs v
variable {In : Int → Int → Prop} {len : Int}
theorem Out0.inv {s : St} (h : Out0 In len s) (q p : Int) : Inv In len q p { s with item := q } :=
  ⟨rfl, h.bd, h.mn, fun x => ⟨(h.me x).1, fun i e b hb hk => absurd hk ((h.me x).2 i e b hb)⟩, fun x v e => ⟨(h.he x v e).1, fun i e' b hb hk => absurd hk ((h.he x v e).2 i e' b hb)⟩⟩
theorem Out0.item {s : St} (h : Out0 In len s) (q : Int) : Out0 In len { s with item := q } := ⟨h.bd, h.mn, h.me, h.he⟩
theorem Out0.bind {s : St} (h : Out0 In len s) (a : Int) (wd : ByteArray) (kd : Int) (hq : 0 ≤ s.item ∧ s.item < len) (hk : kd = 1 ∨ kd = 2) : Out0 In len (bind a wd kd s) := by
  obtain ⟨e1, e2, e3, e4⟩ := bind0_bs a wd s
  have eb : (Sc.bind a wd kd s).bs = s.bs ++ [⟨a, kd, wd, s.item⟩] := rfl
  have hl : (Sc.bind a wd kd s).bs.length = s.bs.length + 1 := by rw [eb]; simp
  refine ⟨fun b hb => ?_, fun u hu => ?_, fun x => ?_, fun x v e => ?_⟩
  · rw [eb] at hb
    rcases List.mem_append.1 hb with hb | hb
    · exact h.bd b hb
    · rw [List.mem_singleton] at hb
      subst hb
      refine ⟨.inl (by unfold isItem; rcases hk with rfl | rfl <;> rfl), hq.1, hq.2, fun hh => ?_⟩
      have hh' : 2 < kd := hh
      omega
  · rw [eb]
    exact (h.mn u (by rw [← e2]; exact hu)).ext
  · rw [hl, eb]
    show (if x = wd then (s.bs.length : Int) else s.means x) < _ ∧ NoLoc _ (if x = wd then (s.bs.length : Int) else s.means x)
    by_cases hx : x = wd
    · rw [if_pos hx]
      refine ⟨by omega, fun i e b hb hbk => ?_⟩
      have : i = s.bs.length := by omega
      subst this
      rw [List.getElem?_append_right (Nat.le_refl _)] at hb
      simp at hb
      subst hb
      have hh' : 2 < kd := hbk
      omega
    · rw [if_neg hx]
      exact ⟨by have := (h.me x).1; omega, (h.me x).2.ext (h.me x).1⟩
  · have hv : v < (s.bs.length : Int) ∧ NoLoc s.bs v := by
      have e' : (bind0 a wd s).here x = some v := e
      unfold bind0 at e'
      split at e'
      · exact h.he x v e'
      · have e2 : (if x = wd then some (s.means wd) else s.here x) = some v := e'
        by_cases hx : x = wd
        · rw [if_pos hx] at e2
          injection e2 with e2
          rw [← e2]
          exact h.me wd
        · rw [if_neg hx] at e2
          exact h.he x v e2
    rw [hl, eb]
    exact ⟨by have := hv.1; omega, hv.2.ext hv.1⟩
end Sc
end Go.Proofs.Ytnefnnoleeeedaa
namespace Go.Proofs.Ytnefnnoleeeedaa
open Go.RowKit Go.Op
namespace Sc
open Vm
open Ps Pg Sb
theorem lexF_len (s : ByteArray) : ∀ (f k n : Nat) (l : List Tok), n ≤ 4000 → lexF s f k n = .good l → n + l.length ≤ 4000
  | 0, _, _, _, _, h => by rw [lexF] at h; cases h
  | f + 1, k, n, l, hn, h => by
    rw [lexF] at h
    split at h
    · cases h
    · split at h
      · cases h
      · split at h
        · injection h with h
          rw [← h]
          simp
          omega
        · cases e : lexF s f (endK s k) (n + 1) with
          | bad a b => rw [e] at h; cases h
          | good m =>
            rw [e] at h
            have h' : [tokK s k] ++ m = l := by injection h
            have := lexF_len s f _ _ m (by omega) e
            rw [← h']
            simp
            omega
theorem tok_size (s : ByteArray) (k : Nat) : (tokK s k).text.size ≤ s.size := by
  unfold tokK
  simp only [ByteArray.size_extract]
  omega
theorem lex_facts {s : ByteArray} {l : List Tok} (h : lexR s = .good l) : l.length ≤ 4000 ∧ ∀ j, (textAt l j).size ≤ 16384 := by
  unfold lexR at h
  split at h
  · cases h
  · rename_i hs
    split at h
    · cases h
    · refine ⟨by have := lexF_len s _ _ _ l (by omega) h; omega, fun j => ?_⟩
      unfold textAt
      cases e : l[j]? with
      | none => decide
      | some t =>
        obtain ⟨k, rfl, _⟩ := lexF_mem s _ _ _ _ h t (List.mem_of_getElem? e)
        have := tok_size s k
        show (tokK s k).text.size ≤ 16384
        omega
theorem words_apt {l : List Tok} (hw : ∀ j, (textAt l j).size ≤ 16384) : ∀ (k : Fo) (a t : Nat), Apt l k a t → wordsOk k
  | .nil, _, _, _ => trivial
  | .cons h k r, a, t, ⟨h1, h2, h3, h4, h5⟩ => by
    have e0m : e0.size ≤ maxLen := by decide
    have m16 : (16384 : Nat) ≤ maxLen := by decide
    unfold nodeOK at h1
    refine ⟨?_, ?_, words_apt hw r _ t h5⟩
    · split at h1
      · rw [h1.2.2]; exact e0m
      · rcases h1.2.2.2 with ⟨e, _⟩ | ⟨⟨j, e⟩, _⟩
        · rw [e]; exact e0m
        · rw [e]; exact Nat.le_trans (hw j) m16
    · by_cases c0 : h.kind = 0
      · rw [h2 c0]; exact trivial
      · by_cases c2 : h.kind = 2
        · have hu := h3 c2
          cases k with
          | nil => exact trivial
          | cons hk kk rk =>
            obtain ⟨u1, u2, j, u3⟩ := hu
            subst u1 u2
            exact ⟨by rw [u3]; exact Nat.le_trans (hw j) m16, trivial, trivial⟩
        · exact words_apt hw k _ _ (h4 c0 c2)
theorem fc_tr : ∀ k : Fo, (tr k).cnt = fc k
  | .nil => rfl
  | .cons h k r => by rw [tr, Tr.cnt, fc, fc_tr k, fc_tr r]
theorem of_facts {s : ByteArray} {l : List Tok} {h : Hd} {k : Fo} (hof : ofM s = .ok l h k) : h.kind = 1 ∧ (∃ t, Apt l k 0 t) ∧ Its k ∧ fc k ≤ 16000 ∧ wordsOk k := by
  unfold ofM at hof
  cases hl : lexR s with
  | bad a b => rw [hl] at hof; cases hof
  | good l' =>
    rw [hl] at hof
    dsimp only at hof
    cases hp : parseM l' with
    | bad a b => rw [hp] at hof; cases hof
    | ok h' k' =>
      rw [hp] at hof
      dsimp only at hof
      injection hof with e1 e2 e3
      subst e1 e2 e3
      obtain ⟨f1, f2⟩ := lex_facts hl
      have W := (lexR_wf hl f1).toWf
      obtain ⟨q, hq, hlt⟩ := items_some W
      unfold parseM at hp
      rw [hq] at hp
      dsimp only at hp
      unfold wholeM at hp
      split at hp
      · cases hp
      · rename_i hg
        dsimp only at hg
        split at hp
        · cases hp
        · simp only [Fo.one] at hp
          split at hp
          · cases hp
          · injection hp with h1 h2
            subst h1 h2
            have hq2 : q.2.2 < 0 := by omega
            obtain ⟨a1, a2, _⟩ := items_apt _ _ _ _ hq hq2
            have hc := items_cnt _ _ _ _ hq hq2
            have := hlt hq2
            exact ⟨rfl, ⟨_, a1⟩, items_its _ _ _ _ hq, by omega, words_apt f2 _ _ _ a1⟩
end Sc
end Go.Proofs.Ytnefnnoleeeedaa
namespace Go.Proofs.Ytnefnnoleeeedaa
open Go.RowKit Go.Op
namespace Sc
open Vm
open Ps Pg Sb
theorem of_bad {s : ByteArray} {e a : Int} (h : ofM s = .bad e a) : e ≠ 0 := by
  unfold ofM at h
  cases hx : lexR s with
  | bad e' a' =>
    rw [hx] at h
    injection h with h1 h2
    rw [← h1]
    exact lexR_bad hx
  | good l =>
    rw [hx] at h
    dsimp only at h
    cases hp : parseM l with
    | ok h' k' => rw [hp] at h; cases h
    | bad e' a' =>
      rw [hp] at h
      injection h with h1 h2
      have hle : l.length ≤ 4000 := (lex_facts hx).1
      have := parse_bad (lexR_wf hx hle) hp
      omega
end Sc
end Go.Proofs.Ytnefnnoleeeedaa
