import Derived.Test.YthjflofcgdfekaaGreatDoorSH
namespace Go.Proofs.YthjflofcgdfekaaGreatDoor
open Go.RowKit Go.Op
namespace Sc
open Vm
theorem Gx.far {K K' : Nat → Prop} {w w1 : World} (h : Gx K w K' w1) {p : Addr} (hp : w.heap.size ≤ p.block) (u : Value) : Gx K w K' (w1.setCell p u) :=
  ⟨h.os, h.tape, h.output, by simpa [World.setCell] using h.size, fun g h1 hn => (Below.heap_setCell w1 p u g (fun e => by rw [e] at h1; omega)).trans (h.block g h1 hn), h.own⟩
theorem WSr.below {X : Wc} {w w' : World} {K : Nat → Prop} {hv : Option Nat} {s : St} {N nm nh : Nat} {v1 v2 v3 v4 : Value} (h : WSr X w K hv s N v1 v2 v3 v4 nm nh) (hb : Below w.heap.size w w') : WSr X w' K hv s N v1 v2 v3 v4 nm nh :=
  h.keep hb.size fun g hg => hb.block g (h.lt g hg).2
set_option maxHeartbeats 40000000 in
set_option maxRecDepth 100000 in
theorem mention_any {X : Wc} {w : World} {K : Nat → Prop} {hv : Option Nat} {s : St} {N nm nh : Nat} {v1 v2 v3 v4 : Value} (h : WSr X w K hv s N v1 v2 v3 v4 nm nh) (ok : Ok s) (hL : 0 ≤ s.lam ∧ s.lam ≤ 1000000) (n : Hi) (A : Option Addr) (k c : Nat) (wr : Bool) (hN : N ≤ 100000000) (hx : n.word.size ≤ maxLen) :
    Calls Tryz.prog 178 #[X.p, hvv n A k c, .bool wr] w (Ans X w K hv (mention n.at_ n.word wr s) (N + 2)) := by
  have h1 := h.alloc (.cells (hcc n A k c) 38)
  have RB := RowB.new w 38 (hcc n A k c)
  have H1 := Lib.hid h1
  have G1 := Lib.hid (Gx.alloc K w (.cells (hcc n A k c) 38))
  have HR := Lib.hid RB
  have HKB : Hid (¬ K w.heap.size) := h.inv
  have HSZ : Hid (w.heap.size < (w.alloc (.cells (hcc n A k c) 38)).heap.size) := by unfold Hid; simp
  have OK := Lib.hid ok
  have HL := Lib.hid hL
  obtain ⟨b, mb, B⟩ := X
  simp only [hcc] at *
  clear h h1 RB ok hL
  obtain ⟨tv, htv⟩ : ∃ tv, tv = s.means n.word := ⟨_, rfl⟩
  have HTV := Lib.hid htv
  clear htv
  go_enter Tryz.func178, Tryz.ntmps178
  go_wp2_with fail
  obtain ⟨W1, hW1⟩ : ∃ W1, W1 = w.alloc (.cells (#[.int .i64 n.kind, .int .i64 n.fro, .int .i64 n.til, .string n.word, .int .i64 n.at_, .slice A k c] : Array Value) 38) := ⟨_, rfl⟩
  rw [← hW1] at H1 G1 HR HSZ ⊢
  clear hW1
  obtain ⟨bx, hbx⟩ : ∃ bx, bx = w.heap.size := ⟨_, rfl⟩
  rw [← hbx] at HR HKB HSZ ⊢
  have HBX := Lib.hid hbx
  clear hbx
  refine wp_region_G (S := SG (fun _ => True) 9 (fun w' => RowB w' b 189 (wcc v1 v2 v3 v4 mb hv s.lam s.item) ∧ RowB w' bx 38 #[.int .i64 n.kind, .int .i64 n.fro, .int .i64 n.til, .string n.word, .int .i64 n.at_, .slice A k c]) 99 (fun _ => True)) (by kernel_rfl) ⟨trivial, fun _ => ⟨H1.out.row, HR.out⟩, fun _ => trivial⟩ (fun hS => ?_)
  obtain ⟨WD, hWD⟩ : ∃ WD, WD = W1.drew := ⟨_, rfl⟩
  have H1 := Lib.hid (H1.out.drew)
  have G1 := Lib.hid (G1.out.trans (Gx.drew _ W1))
  replace HR := Lib.hid (show RowB W1.drew _ _ _ from HR.out)
  rw [← hWD] at hS H1 G1 HR ⊢
  have HSW : Hid (WD.heap.size = W1.heap.size) := by rw [hWD]; rfl
  clear hWD
  refine wpG_t1 (i := 0) (v := ?v119) rfl (by kernel_rfl) (fun _ _ _ h => h) hS (Or.inl ⟨by rfl, ?hy119⟩) ?rest119
  case hy119 => (intro w' hw; obtain ⟨_, q1, q2⟩ := hw; have u0 := q1.cell; have u1 := q2.cell; go_simp; try with_reducible rfl)
  replace hS := SG.set (i := 0) (by decide) (by decide) hS
  try simp only [pL]
  refine wpG_t1 (i := 1) (v := ?v120) rfl (by kernel_rfl) (fun _ _ _ h => h) hS (Or.inl ⟨by rfl, ?hy120⟩) ?rest120
  case hy120 => (intro w' hw; obtain ⟨_, q1, q2⟩ := hw; have u0 := q1.cell; have u1 := q2.cell; go_simp; try with_reducible rfl)
  replace hS := SG.set (i := 1) (by decide) (by decide) hS
  try simp only [pL]
  refine wpG_t1 (i := 2) (v := ?v121) rfl (by kernel_rfl) (fun _ _ _ h => h) hS (Or.inl ⟨by rfl, ?hy121⟩) ?rest121
  case hy121 => (intro w' hw; obtain ⟨_, q1, q2⟩ := hw; have u0 := q1.cell; have u1 := q2.cell; go_simp; try with_reducible rfl)
  replace hS := SG.set (i := 2) (by decide) (by decide) hS
  try simp only [pL]
  refine wpG_t1 (i := 3) (v := ?v122) rfl (by kernel_rfl) (fun _ _ _ h => h) hS (Or.inl ⟨by rfl, ?hy122⟩) ?rest122
  case hy122 => (intro w' hw; obtain ⟨_, q1, q2⟩ := hw; have u0 := q1.cell; have u1 := q2.cell; go_simp; try with_reducible rfl)
  replace hS := SG.set (i := 3) (by decide) (by decide) hS
  try simp only [pL]
  refine wpG_t1 (i := 4) (v := ?v123) rfl (by kernel_rfl) (fun _ _ _ h => h) hS (Or.inl ⟨by rfl, ?hy123⟩) ?rest123
  case hy123 => (intro w' hw; obtain ⟨_, q1, q2⟩ := hw; have u0 := q1.cell; have u1 := q2.cell; go_simp; try with_reducible rfl)
  replace hS := SG.set (i := 4) (by decide) (by decide) hS
  try simp only [pL]
  refine wpG_t1 (i := 6) (v := ?v124) rfl (by kernel_rfl) (fun _ _ _ h => h) hS (Or.inl ⟨by rfl, ?hy124⟩) ?rest124
  case hy124 => (intro w' hw; obtain ⟨_, q1, q2⟩ := hw; have u0 := q1.cell; have u1 := q2.cell; go_simp; try with_reducible rfl)
  replace hS := SG.set (i := 6) (by decide) (by decide) hS
  try simp only [pL]
  clear hS
  obtain ⟨ub, hub⟩ : ∃ ub, ub = WD.heap.size := ⟨_, rfl⟩
  obtain ⟨W2, hW2⟩ : ∃ W2, W2 = WD.alloc (.cells #[.int .i64 0, .int .i64 0, .bool false, .int .i64 0] 207) := ⟨_, rfl⟩
  have H2 := Lib.hid (H1.out.alloc (.cells #[.int .i64 0, .int .i64 0, .bool false, .int .i64 0] 207))
  have G2 := Lib.hid (G1.out.trans (Gx.alloc K WD (.cells #[.int .i64 0, .int .i64 0, .bool false, .int .i64 0] 207)))
  have RU := Lib.hid (RowB.new WD 207 #[.int .i64 0, .int .i64 0, .bool false, .int .i64 0])
  have HR2 := Lib.hid (HR.out.alloc (.cells #[.int .i64 0, .int .i64 0, .bool false, .int .i64 0] 207))
  have HUB : Hid (¬ K ub) := by rw [hub]; exact H1.out.inv
  have HUL : Hid (bx ≠ ub ∧ w.heap.size ≤ ub) := ⟨by have h1 := HSZ.out; have h2 := HSW.out; omega, by have := G1.out.size; omega⟩
  have HUS : Hid (ub < W2.heap.size) := by rw [hub, hW2]; unfold Hid; simp
  rw [← hW2] at H2 G2 RU HR2
  rw [← hub] at RU
  refine wpG_ready (rs := [5, 8]) (by kernel_rfl) (by simp) ?_
  refine RG.cons rfl rfl (fun K' hK => ?_) (RG.cons rfl rfl (fun K' hK => ?_) RG.nil)
  · have CM := Lib.hid (meant_any H1.out hx)
    go_simp
    refine CM.out.mono ?_
    rintro e W9 ⟨rfl, rfl⟩
    clear CM
    rw [← HTV.out]
    go_wp2_with fail
    refine hK.out _ _ ⟨trivial, fun _ => ⟨H1.out.row, HR.out⟩, fun _ => trivial⟩ (fun hS => ?_)
    clear hK K'
    try simp only [pL]
    refine wpG_t1 (i := 7) (v := ?v125) rfl (by kernel_rfl) (fun _ _ _ h => h) hS (Or.inl ⟨by rfl, ?hy125⟩) ?rest125
    case hy125 => (intro w' hw; obtain ⟨_, q1, q2⟩ := hw; have u0 := q1.cell; have u1 := q2.cell; go_simp; try with_reducible rfl)
    replace hS := SG.set (i := 7) (by decide) (by decide) hS
    try simp only [pL]
    clear hS
    refine wpG_ready (rs := [8]) (by kernel_rfl) (by simp) ?_
    refine RG.cons rfl rfl (fun K' hK => ?_) RG.nil
    go_simp
    rw [← hub, ← hW2]
    refine hK.out _ _ ⟨trivial, fun _ => ⟨H2.out.row, HR2.out⟩, fun _ => trivial⟩ (fun hS => ?_)
    clear hK K'
    try simp only [pL]
    clear H1 G1 HR hub hW2
    refine wpG_ready (rs := [9]) (by kernel_rfl) (by simp) ?_
    refine RG.cons rfl rfl (fun K' hK => ?_) RG.nil
    have yc := RU.out.cell
    have yt := RU.out.thaw
    go_simp
    clear yc yt
    refine hK.out _ _ ⟨trivial, fun h => absurd (h : true = false) (by decide), fun _ => trivial⟩ (fun hS => ?_)
    clear hK K'
    try simp only [pL]
    clear hS
    refine wpG_done (by kernel_rfl) ?_ _
    obtain ⟨W1, hW1⟩ : ∃ W1, W1 = (((W2.setCell ⟨ub, 0, none⟩ (.int .i64 n.at_)).setCell ⟨ub, 1, none⟩ (.int .i64 tv)).setCell ⟨ub, 2, none⟩ (.bool wr)).setCell ⟨ub, 3, none⟩ (.int .i64 0) := ⟨_, rfl⟩
    have HU : Hid (RowB W1 ub 207 #[.int .i64 n.at_, .int .i64 tv, .bool wr, .int .i64 0]) := by rw [hW1]; exact (((RU.out.put 0 (.int .i64 n.at_)).put 1 (.int .i64 tv)).put 2 (.bool wr)).put 3 (.int .i64 0)
    have H1 := Lib.hid ((((H2.out.set (p := ⟨ub, 0, none⟩) HUB.out (.int .i64 n.at_)).set (p := ⟨ub, 1, none⟩) HUB.out (.int .i64 tv)).set (p := ⟨ub, 2, none⟩) HUB.out (.bool wr)).set (p := ⟨ub, 3, none⟩) HUB.out (.int .i64 0))
    have G1 := Lib.hid ((((G2.out.far (p := ⟨ub, 0, none⟩) HUL.out.2 (.int .i64 n.at_)).far (p := ⟨ub, 1, none⟩) HUL.out.2 (.int .i64 tv)).far (p := ⟨ub, 2, none⟩) HUL.out.2 (.bool wr)).far (p := ⟨ub, 3, none⟩) HUL.out.2 (.int .i64 0))
    have HR := Lib.hid ((((HR2.out.far (p := ⟨ub, 0, none⟩) HUL.out.1 (.int .i64 n.at_)).far (p := ⟨ub, 1, none⟩) HUL.out.1 (.int .i64 tv)).far (p := ⟨ub, 2, none⟩) HUL.out.1 (.bool wr)).far (p := ⟨ub, 3, none⟩) HUL.out.1 (.int .i64 0))
    rw [← hW1] at H1 G1 HR ⊢
    clear hW1 H2 G2 HR2 RU
    have HUS1 : Hid (ub < W1.heap.size) := HU.out.lt
    have HM := OK.out.means n.word
    rw [← HTV.out] at HM
    by_cases h0 : tv = -1
    · subst h0
      clear HM
      have y0 := HR.out.cell
      have y1 := HU.out.cell
      go_wp2_with fail
      have CW := Lib.hid (wrong_any H1.out n A k c 30 (by omega))
      simp only [hvv] at CW
      refine CW.out.mono ?_
      rintro e W4 ⟨rfl, K1, ⟨v1, v2, v3, v4, m1, n1, h2⟩, g2⟩
      clear y0 y1
      have HU := Lib.hid (g2.row HU.out HUB.out)
      have HUB1 : Hid (¬ K1 ub) := fun hk => by
        rcases g2.own ub hk with h1 | h1
        · exact HUB.out h1
        · have := HUS1.out; omega
      have G1 := Lib.hid (G1.out.trans g2)
      have H1 := Lib.hid h2
      clear h2 g2 CW
      obtain ⟨s0, hs0⟩ : ∃ s0 : St, s0 = s.wrong n.at_ 30 := ⟨_, rfl⟩
      rw [← hs0] at H1
      have HMEN : Hid ((s0, (0 : Int)) = men0 n.at_ n.word wr s) := by unfold Hid men0; rw [if_pos HTV.out.symm, hs0]
      clear hs0
      obtain ⟨W1, hW1⟩ : ∃ W1, W1 = W4 := ⟨_, rfl⟩
      rw [← hW1] at H1 G1 HU ⊢
      clear hW1
      go_wp2_with fail
      have HR := HU
      refine wp_region_G (S := SG (fun _ => True) 12 (fun w' => RowB w' b 189 (wcc v1 v2 v3 v4 mb hv s0.lam s0.item) ∧ RowB w' ub 207 #[.int .i64 n.at_, .int .i64 (-1), .bool wr, .int .i64 0]) 99 (fun _ => True)) (by kernel_rfl) ⟨trivial, fun _ => ⟨H1.out.row, HR.out⟩, fun _ => trivial⟩ (fun hS => ?_)
      obtain ⟨WD, hWD⟩ : ∃ WD, WD = W1.drew := ⟨_, rfl⟩
      have H1 := Lib.hid (H1.out.drew)
      have G1 := Lib.hid (G1.out.trans (Gx.drew _ W1))
      replace HR := Lib.hid (show RowB W1.drew _ _ _ from HR.out)
      rw [← hWD] at hS H1 G1 HR ⊢
      clear hWD
      refine wpG_t1 (i := 0) (v := ?v126) rfl (by kernel_rfl) (fun _ _ _ h => h) hS (Or.inl ⟨by rfl, ?hy126⟩) ?rest126
      case hy126 => (intro w' hw; obtain ⟨_, q1, q2⟩ := hw; have u0 := q1.cell; have u1 := q2.cell; go_simp; try with_reducible rfl)
      replace hS := SG.set (i := 0) (by decide) (by decide) hS
      try simp only [pL]
      refine wpG_t1 (i := 1) (v := ?v127) rfl (by kernel_rfl) (fun _ _ _ h => h) hS (Or.inl ⟨by rfl, ?hy127⟩) ?rest127
      case hy127 => (intro w' hw; obtain ⟨_, q1, q2⟩ := hw; have u0 := q1.cell; have u1 := q2.cell; go_simp; try with_reducible rfl)
      replace hS := SG.set (i := 1) (by decide) (by decide) hS
      try simp only [pL]
      refine wpG_t1 (i := 2) (v := ?v128) rfl (by kernel_rfl) (fun _ _ _ h => h) hS (Or.inl ⟨by rfl, ?hy128⟩) ?rest128
      case hy128 => (intro w' hw; obtain ⟨_, q1, q2⟩ := hw; have u0 := q1.cell; have u1 := q2.cell; go_simp; try with_reducible rfl)
      replace hS := SG.set (i := 2) (by decide) (by decide) hS
      try simp only [pL]
      refine wpG_t1 (i := 3) (v := ?v129) rfl (by kernel_rfl) (fun _ _ _ h => h) hS (Or.inl ⟨by rfl, ?hy129⟩) ?rest129
      case hy129 => (intro w' hw; obtain ⟨_, q1, q2⟩ := hw; have u0 := q1.cell; have u1 := q2.cell; go_simp; try with_reducible rfl)
      replace hS := SG.set (i := 3) (by decide) (by decide) hS
      try simp only [pL]
      refine wpG_t1 (i := 4) (v := ?v130) rfl (by kernel_rfl) (fun _ _ _ h => h) hS (Or.inl ⟨by rfl, ?hy130⟩) ?rest130
      case hy130 => (intro w' hw; obtain ⟨_, q1, q2⟩ := hw; have u0 := q1.cell; have u1 := q2.cell; go_simp; try with_reducible rfl)
      replace hS := SG.set (i := 4) (by decide) (by decide) hS
      try simp only [pL]
      refine wpG_t1 (i := 5) (v := ?v131) rfl (by kernel_rfl) (fun _ _ _ h => h) hS (Or.inl ⟨by rfl, ?hy131⟩) ?rest131
      case hy131 => (intro w' hw; obtain ⟨_, q1, q2⟩ := hw; have u0 := q1.cell; have u1 := q2.cell; go_simp; try with_reducible rfl)
      replace hS := SG.set (i := 5) (by decide) (by decide) hS
      try simp only [pL]
      refine wpG_t1 (i := 6) (v := ?v132) rfl (by kernel_rfl) (fun _ _ _ h => h) hS (Or.inl ⟨by rfl, ?hy132⟩) ?rest132
      case hy132 => (intro w' hw; obtain ⟨_, q1, q2⟩ := hw; have u0 := q1.cell; have u1 := q2.cell; go_simp; try with_reducible rfl)
      replace hS := SG.set (i := 6) (by decide) (by decide) hS
      try simp only [pL]
      clear hS
      have H2 := Lib.hid (H1.out.alloc (.cells #[.int .i64 n.at_, .int .i64 (-1), .bool wr, .int .i64 0] 207))
      have G2 := Lib.hid (G1.out.trans (Gx.alloc _ WD (.cells #[.int .i64 n.at_, .int .i64 (-1), .bool wr, .int .i64 0] 207)))
      have RN := Lib.hid (RowB.new WD 207 #[.int .i64 n.at_, .int .i64 (-1), .bool wr, .int .i64 0])
      have HR2 := Lib.hid (HR.out.alloc (.cells #[.int .i64 n.at_, .int .i64 (-1), .bool wr, .int .i64 0] 207))
      refine wpG_ready (rs := [7]) (by kernel_rfl) (by simp) ?_
      refine RG.cons rfl rfl (fun K' hK => ?_) RG.nil
      go_simp
      refine hK.out _ _ ⟨trivial, fun _ => ⟨H2.out.row, HR2.out⟩, fun _ => trivial⟩ (fun hS => ?_)
      clear hK K'
      try simp only [pL]
      clear hS
      obtain ⟨W2, hW2⟩ : ∃ W2, W2 = WD.alloc (.cells #[.int .i64 n.at_, .int .i64 (-1), .bool wr, .int .i64 0] 207) := ⟨_, rfl⟩
      rw [← hW2] at H2 G2 RN HR2 ⊢
      obtain ⟨v', W3, hr, ho, hg, hl⟩ := app_at (w := W2) (t := 47) (e := 207) (size := 4) (bytes := 32) (z := .agg #[.int .i64 0, .int .i64 0, .bool false, .int .i64 0]) Tryz.underlying47 (by kernel_rfl) rfl (by decide) (by decide) B v2 _ _ H2.out.o2 _ _ RN.out rfl (by intro u hu; simp at hu; rcases hu with rfl | rfl | rfl | rfl <;> rfl) (by have := H2.out.sum; omega) (by have := (H2.out.lt _ H2.out.kb); simp only at this; omega) 47
      have r3 : RowB W3 b 189 (wcc v1 v2 v3 v4 mb hv s0.lam s0.item) := (hg.block _ H2.out.row.lt (fun e => own_ne_row H2.out.o2 H2.out.row (by decide) e.symm)).trans H2.out.row
      have b3 : RowB W3 ub 207 #[.int .i64 n.at_, .int .i64 (-1), .bool wr, .int .i64 0] := (hg.block _ HR2.out.lt (fun e => HUB1.out (H2.out.k2 _ e.symm))).trans HR2.out
      have FIN := Lib.hid (H2.out.app2 (x := ⟨n.at_, -1, wr, 0⟩) ho hg hl)
      obtain ⟨A', c', rfl, _⟩ := own_shape ho
      have R3 := Lib.hid r3
      have B3 := Lib.hid b3
      clear ho hg hl r3 b3 hW2 H2 HR2 RN
      refine wpG_ready (rs := [8]) (by kernel_rfl) (by simp) ?_
      refine RG.cons rfl rfl (fun K' hK => ?_) RG.nil
      refine wp_append_run (.tmp 58) (.tmp 60) 47 (by rfl) (by rfl) (by rfl) hr ?_
      refine hK.out _ _ ⟨trivial, fun _ => ⟨R3.out, B3.out⟩, fun _ => trivial⟩ (fun hS => ?_)
      clear hK K'
      try simp only [pL]
      clear hr
      refine wpG_t0 (i := 9) (v := ?v133) rfl (by kernel_rfl) (fun _ _ _ h => h) hS (Or.inl ⟨by rfl, ?hy133⟩) ?rest133
      case hy133 => (intro w' hw; go_simp; try with_reducible rfl)
      replace hS := SG.set (i := 9) (by decide) (by decide) hS
      try simp only [pL]
      refine wpG_t0 (i := 10) (v := ?v134) rfl (by kernel_rfl) (fun _ _ _ h => h) hS (Or.inl ⟨by rfl, ?hy134⟩) ?rest134
      case hy134 => (intro w' hw; go_simp; try with_reducible rfl)
      replace hS := SG.set (i := 10) (by decide) (by decide) hS
      try simp only [pL]
      refine wpG_t0 (i := 11) (v := ?v135) rfl (by kernel_rfl) (fun _ _ _ h => h) hS (Or.inl ⟨by rfl, ?hy135⟩) ?rest135
      case hy135 => (intro w' hw; go_simp; try with_reducible rfl)
      replace hS := SG.set (i := 11) (by decide) (by decide) hS
      try simp only [pL]
      clear hS
      have yc := R3.out.cell
      have yt := R3.out.thaw
      refine wpG_ready (rs := [12]) (by kernel_rfl) (by simp) ?_
      refine RG.cons rfl rfl (fun K' hK => ?_) RG.nil
      go_simp
      refine hK.out _ _ ⟨trivial, fun h => absurd (h : true = false) (by decide), fun _ => trivial⟩ (fun hS => ?_)
      clear hK K'
      try simp only [pL]
      clear hS yc yt R3
      refine wpG_done (by kernel_rfl) ?_ _
      go_end0
      have FE := (FIN.out.1).mono (N' := N + 2) (by omega)
      rw [HTV.out] at FE
      rw [men_eq n.at_ n.word wr s s0 0 HMEN.out] at FE
      exact ⟨rfl, _, ⟨_, _, _, _, _, _, FE⟩, G2.out.trans FIN.out.2⟩
    · have HM2 : 0 ≤ tv ∧ tv < (s.bs.length : Int) := by omega
      obtain ⟨i, hi⟩ : ∃ i : Nat, tv = (i : Int) := ⟨tv.toNat, by omega⟩
      subst hi
      have hil : i < s.bs.length := by omega
      obtain ⟨x, hxi⟩ : ∃ x, s.bs[i]? = some x := ⟨s.bs[i], List.getElem?_eq_getElem hil⟩
      obtain ⟨wi, hwi⟩ : ∃ y, s.within[i]? = some y := ⟨s.within[i]'(by rw [OK.out.len]; exact hil), List.getElem?_eq_getElem (by rw [OK.out.len]; exact hil)⟩
      have HWI := Lib.hid (OK.out.win wi (List.mem_of_getElem? hwi))
      have HMX : Hid (men0 n.at_ n.word wr s = if isItem x = false then (s, s.lam - wi) else (if wr = true then s.wrong n.at_ 35 else s, 0)) := by
        unfold Hid men0
        rw [if_neg (by rw [← HTV.out]; exact h0), ← HTV.out, Int.toNat_natCast, hxi]
        simp only [List.getD, hwi, Option.getD_some]
      obtain ⟨g1, c1, hv1, hc1, hg1, hob1, hcell⟩ := row_get H1.out.o1 (fun _ => rfl) hxi rfl
      subst hv1
      obtain ⟨g4, c4, hv4, hc4, hg4, hob4, hcell4⟩ := row_get H1.out.o4 (fun _ => rfl) hwi rfl
      subst hv4
      have HXI := Lib.hid hxi
      have HC := Lib.hid hcell
      have HC4 := Lib.hid hcell4
      have hil' : (i : Int) < (s.bs.length : Int) := by omega
      have hil4 : (i : Int) < (s.within.length : Int) := by rw [OK.out.len]; omega
      have HG := Lib.hid hg1
      have HG4 := Lib.hid hg4
      have h0' : (((i : Int)) == -1) = false := by rw [beq_eq_false_iff_ne]; omega
      clear hxi hwi hcell hcell4 hob1 hob4 hg1 hg4 HM HM2
      have y1 := HU.out.cell
      go_wp2_with fail
      clear y1
      refine wp_region_G (S := SG (fun w' => RowB w' b 189 (wcc (.slice (some ⟨g1, 0, none⟩) s.bs.length c1) v2 v3 (.slice (some ⟨g4, 0, none⟩) s.within.length c4) mb hv s.lam s.item) ∧ RowB w' ub 207 #[.int .i64 n.at_, .int .i64 (i : Int), .bool wr, .int .i64 0] ∧ ∀ j u, (bdC x)[j]? = some u → w'.cell? ⟨g1, i * 4 + j, none⟩ = some u) 98 (fun _ => True) 99 (fun _ => True)) (by kernel_rfl) ⟨⟨H1.out.row, HU.out, HC.out⟩, fun _ => trivial, fun _ => trivial⟩ (fun hS => ?_)
      obtain ⟨WD, hWD⟩ : ∃ WD, WD = W1.drew := ⟨_, rfl⟩
      have H1 := Lib.hid (H1.out.drew)
      have G1 := Lib.hid (G1.out.trans (Gx.drew _ W1))
      have HU := Lib.hid (show RowB W1.drew _ _ _ from HU.out)
      have HR := Lib.hid (show RowB W1.drew _ _ _ from HR.out)
      have HC := Lib.hid (show ∀ j u, (bdC x)[j]? = some u → W1.drew.cell? ⟨g1, i * 4 + j, none⟩ = some u from HC.out)
      have HC4 := Lib.hid (show ∀ j u, (wiC wi)[j]? = some u → W1.drew.cell? ⟨g4, i * 1 + j, none⟩ = some u from HC4.out)
      have HG := Lib.hid (show g1 < W1.drew.heap.size from HG.out)
      have HG4 := Lib.hid (show g4 < W1.drew.heap.size from HG4.out)
      rw [← hWD] at hS H1 G1 HU HR HC HC4 HG HG4 ⊢
      clear hWD
      refine wpG_t0 (i := 0) (v := ?v136) rfl (by kernel_rfl) (fun _ _ _ h => h) hS (Or.inl ⟨by rfl, ?hy136⟩) ?rest136
      case hy136 => (intro w' hw; obtain ⟨q1, q2, q3⟩ := hw; have u0 := q1.cell; have u1 := q2.cell; have d0 : w'.cell? ⟨g1, i * 4, none⟩ = some (.int .i64 x.at_) := q3 0 _ rfl; have d1 : w'.cell? ⟨g1, i * 4 + 1, none⟩ = some (.int .i64 x.kind) := q3 1 _ rfl; have d2 : w'.cell? ⟨g1, i * 4 + 2, none⟩ = some (.string x.word) := q3 2 _ rfl; have d3 : w'.cell? ⟨g1, i * 4 + 3, none⟩ = some (.int .i64 x.item) := q3 3 _ rfl; go_simp; try with_reducible rfl)
      replace hS := SG.set (i := 0) (by decide) (by decide) hS
      try simp only [pL]
      refine wpG_t0 (i := 1) (v := ?v137) rfl (by kernel_rfl) (fun _ _ _ h => h) hS (Or.inl ⟨by rfl, ?hy137⟩) ?rest137
      case hy137 => (intro w' hw; obtain ⟨q1, q2, q3⟩ := hw; have u0 := q1.cell; have u1 := q2.cell; have d0 : w'.cell? ⟨g1, i * 4, none⟩ = some (.int .i64 x.at_) := q3 0 _ rfl; have d1 : w'.cell? ⟨g1, i * 4 + 1, none⟩ = some (.int .i64 x.kind) := q3 1 _ rfl; have d2 : w'.cell? ⟨g1, i * 4 + 2, none⟩ = some (.string x.word) := q3 2 _ rfl; have d3 : w'.cell? ⟨g1, i * 4 + 3, none⟩ = some (.int .i64 x.item) := q3 3 _ rfl; go_simp; try with_reducible rfl)
      replace hS := SG.set (i := 1) (by decide) (by decide) hS
      try simp only [pL]
      refine wpG_t0 (i := 2) (v := ?v138) rfl (by kernel_rfl) (fun _ _ _ h => h) hS (Or.inl ⟨by rfl, ?hy138⟩) ?rest138
      case hy138 => (intro w' hw; obtain ⟨q1, q2, q3⟩ := hw; have u0 := q1.cell; have u1 := q2.cell; have d0 : w'.cell? ⟨g1, i * 4, none⟩ = some (.int .i64 x.at_) := q3 0 _ rfl; have d1 : w'.cell? ⟨g1, i * 4 + 1, none⟩ = some (.int .i64 x.kind) := q3 1 _ rfl; have d2 : w'.cell? ⟨g1, i * 4 + 2, none⟩ = some (.string x.word) := q3 2 _ rfl; have d3 : w'.cell? ⟨g1, i * 4 + 3, none⟩ = some (.int .i64 x.item) := q3 3 _ rfl; go_simp; try with_reducible rfl)
      replace hS := SG.set (i := 2) (by decide) (by decide) hS
      try simp only [pL]
      refine wpG_t0 (i := 3) (v := ?v139) rfl (by kernel_rfl) (fun _ _ _ h => h) hS (Or.inl ⟨by rfl, ?hy139⟩) ?rest139
      case hy139 => (intro w' hw; obtain ⟨q1, q2, q3⟩ := hw; have u0 := q1.cell; have u1 := q2.cell; have d0 : w'.cell? ⟨g1, i * 4, none⟩ = some (.int .i64 x.at_) := q3 0 _ rfl; have d1 : w'.cell? ⟨g1, i * 4 + 1, none⟩ = some (.int .i64 x.kind) := q3 1 _ rfl; have d2 : w'.cell? ⟨g1, i * 4 + 2, none⟩ = some (.string x.word) := q3 2 _ rfl; have d3 : w'.cell? ⟨g1, i * 4 + 3, none⟩ = some (.int .i64 x.item) := q3 3 _ rfl; go_simp; try with_reducible rfl)
      replace hS := SG.set (i := 3) (by decide) (by decide) hS
      try simp only [pL]
      refine wpG_t0 (i := 4) (v := ?v140) rfl (by kernel_rfl) (fun _ _ _ h => h) hS (Or.inl ⟨by rfl, ?hy140⟩) ?rest140
      case hy140 => (intro w' hw; obtain ⟨q1, q2, q3⟩ := hw; have u0 := q1.cell; have u1 := q2.cell; have d0 : w'.cell? ⟨g1, i * 4, none⟩ = some (.int .i64 x.at_) := q3 0 _ rfl; have d1 : w'.cell? ⟨g1, i * 4 + 1, none⟩ = some (.int .i64 x.kind) := q3 1 _ rfl; have d2 : w'.cell? ⟨g1, i * 4 + 2, none⟩ = some (.string x.word) := q3 2 _ rfl; have d3 : w'.cell? ⟨g1, i * 4 + 3, none⟩ = some (.int .i64 x.item) := q3 3 _ rfl; go_simp; try with_reducible rfl)
      replace hS := SG.set (i := 4) (by decide) (by decide) hS
      try simp only [pL]
      refine wpG_t0 (i := 5) (v := ?v141) rfl (by kernel_rfl) (fun _ _ _ h => h) hS (Or.inl ⟨by rfl, ?hy141⟩) ?rest141
      case hy141 => (intro w' hw; obtain ⟨q1, q2, q3⟩ := hw; have u0 := q1.cell; have u1 := q2.cell; have d0 : w'.cell? ⟨g1, i * 4, none⟩ = some (.int .i64 x.at_) := q3 0 _ rfl; have d1 : w'.cell? ⟨g1, i * 4 + 1, none⟩ = some (.int .i64 x.kind) := q3 1 _ rfl; have d2 : w'.cell? ⟨g1, i * 4 + 2, none⟩ = some (.string x.word) := q3 2 _ rfl; have d3 : w'.cell? ⟨g1, i * 4 + 3, none⟩ = some (.int .i64 x.item) := q3 3 _ rfl; go_simp; try with_reducible rfl)
      replace hS := SG.set (i := 5) (by decide) (by decide) hS
      try simp only [pL]
      refine wpG_t0 (i := 6) (v := ?v142) rfl (by kernel_rfl) (fun _ _ _ h => h) hS (Or.inl ⟨by rfl, ?hy142⟩) ?rest142
      case hy142 => (intro w' hw; obtain ⟨q1, q2, q3⟩ := hw; have u0 := q1.cell; have u1 := q2.cell; have d0 : w'.cell? ⟨g1, i * 4, none⟩ = some (.int .i64 x.at_) := q3 0 _ rfl; have d1 : w'.cell? ⟨g1, i * 4 + 1, none⟩ = some (.int .i64 x.kind) := q3 1 _ rfl; have d2 : w'.cell? ⟨g1, i * 4 + 2, none⟩ = some (.string x.word) := q3 2 _ rfl; have d3 : w'.cell? ⟨g1, i * 4 + 3, none⟩ = some (.int .i64 x.item) := q3 3 _ rfl; go_simp; try with_reducible rfl)
      replace hS := SG.set (i := 6) (by decide) (by decide) hS
      try simp only [pL]
      refine wpG_t0 (i := 7) (v := ?v143) rfl (by kernel_rfl) (fun _ _ _ h => h) hS (Or.inl ⟨by rfl, ?hy143⟩) ?rest143
      case hy143 => (intro w' hw; obtain ⟨q1, q2, q3⟩ := hw; have u0 := q1.cell; have u1 := q2.cell; have d0 : w'.cell? ⟨g1, i * 4, none⟩ = some (.int .i64 x.at_) := q3 0 _ rfl; have d1 : w'.cell? ⟨g1, i * 4 + 1, none⟩ = some (.int .i64 x.kind) := q3 1 _ rfl; have d2 : w'.cell? ⟨g1, i * 4 + 2, none⟩ = some (.string x.word) := q3 2 _ rfl; have d3 : w'.cell? ⟨g1, i * 4 + 3, none⟩ = some (.int .i64 x.item) := q3 3 _ rfl; go_simp; try with_reducible rfl)
      replace hS := SG.set (i := 7) (by decide) (by decide) hS
      try simp only [pL]
      refine wpG_t0 (i := 8) (v := ?v144) rfl (by kernel_rfl) (fun _ _ _ h => h) hS (Or.inl ⟨by rfl, ?hy144⟩) ?rest144
      case hy144 => (intro w' hw; obtain ⟨q1, q2, q3⟩ := hw; have u0 := q1.cell; have u1 := q2.cell; have d0 : w'.cell? ⟨g1, i * 4, none⟩ = some (.int .i64 x.at_) := q3 0 _ rfl; have d1 : w'.cell? ⟨g1, i * 4 + 1, none⟩ = some (.int .i64 x.kind) := q3 1 _ rfl; have d2 : w'.cell? ⟨g1, i * 4 + 2, none⟩ = some (.string x.word) := q3 2 _ rfl; have d3 : w'.cell? ⟨g1, i * 4 + 3, none⟩ = some (.int .i64 x.item) := q3 3 _ rfl; go_simp; try with_reducible rfl)
      replace hS := SG.set (i := 8) (by decide) (by decide) hS
      try simp only [pL]
      clear hS
      refine wpG_ready (rs := [9]) (by kernel_rfl) (by simp) ?_
      refine RG.cons rfl rfl (fun K' hK => ?_) RG.nil
      go_simp
      refine (isItem_any x WD).mono ?_
      rintro e W2 ⟨rfl, hb2⟩
      have H1 := Lib.hid (H1.out.below hb2)
      have G1 := Lib.hid (G1.out.trans (Gx.of hb2))
      have HU := Lib.hid (HU.out.below hb2 HU.out.lt)
      have HR := Lib.hid (HR.out.below hb2 HR.out.lt)
      have HC : Hid (∀ j u, (bdC x)[j]? = some u → W2.cell? ⟨g1, i * 4 + j, none⟩ = some u) := fun j u hj => (hb2.cell (p := ⟨g1, i * 4 + j, none⟩) HG.out).trans (HC.out j u hj)
      have HC4 : Hid (∀ j u, (wiC wi)[j]? = some u → W2.cell? ⟨g4, i * 1 + j, none⟩ = some u) := fun j u hj => (hb2.cell (p := ⟨g4, i * 1 + j, none⟩) HG4.out).trans (HC4.out j u hj)
      clear hb2
      go_wp2_with fail
      refine hK.out _ _ ⟨⟨H1.out.row, HU.out, HC.out⟩, fun _ => trivial, fun _ => trivial⟩ (fun hS => ?_)
      clear hK K'
      try simp only [pL]
      refine wpG_t0 (i := 10) (v := ?v145) rfl (by kernel_rfl) (fun _ _ _ h => h) hS (Or.inl ⟨by rfl, ?hy145⟩) ?rest145
      case hy145 => (intro w' hw; go_simp; try with_reducible rfl)
      replace hS := SG.set (i := 10) (by decide) (by decide) hS
      try simp only [pL]
      refine wpG_t0 (i := 11) (v := ?v146) rfl (by kernel_rfl) (fun _ _ _ h => h) hS (Or.inl ⟨by rfl, ?hy146⟩) ?rest146
      case hy146 => (intro w' hw; go_simp; try with_reducible rfl)
      replace hS := SG.set (i := 11) (by decide) (by decide) hS
      try simp only [pL]
      clear hS
      refine wpG_done (by kernel_rfl) ?_ _
      have HUS1 : Hid (ub < W2.heap.size) := HU.out.lt
      obtain ⟨W1, hW1⟩ : ∃ W1, W1 = W2 := ⟨_, rfl⟩
      rw [← hW1] at H1 G1 HU HR HC HC4 HUS1 ⊢
      clear hW1
      cases hq : isItem x with
      | false =>
        rw [hq, if_pos rfl] at HMX
        clear hq
        obtain ⟨far, hfar⟩ : ∃ far, far = s.lam - wi := ⟨_, rfl⟩
        have hwr : IntKind.i64.wrap (s.lam - wi) = far := by have h1 := HWI.out; have h2 := HL.out; rw [IntKind.wrap_i64]; omega
        have HMEN : Hid ((s, far) = men0 n.at_ n.word wr s) := by rw [hfar]; exact HMX.out.symm
        clear hfar
        simp only [Bool.not_false]
        go_wp2_with fail
        refine wp_region_G (S := SG (fun _ => True) 14 (fun w' => RowB w' b 189 (wcc (.slice (some ⟨g1, 0, none⟩) s.bs.length c1) v2 v3 (.slice (some ⟨g4, 0, none⟩) s.within.length c4) mb hv s.lam s.item) ∧ RowB w' ub 207 #[.int .i64 n.at_, .int .i64 (i : Int), .bool wr, .int .i64 0] ∧ ∀ j u, (wiC wi)[j]? = some u → w'.cell? ⟨g4, i * 1 + j, none⟩ = some u) 99 (fun _ => True)) (by kernel_rfl) ⟨trivial, fun _ => ⟨H1.out.row, HU.out, HC4.out⟩, fun _ => trivial⟩ (fun hS => ?_)
        obtain ⟨WD, hWD⟩ : ∃ WD, WD = W1.drew := ⟨_, rfl⟩
        have H1 := Lib.hid (H1.out.drew)
        have G1 := Lib.hid (G1.out.trans (Gx.drew _ W1))
        have HU := Lib.hid (show RowB W1.drew _ _ _ from HU.out)
        rw [← hWD] at hS H1 G1 HU ⊢
        clear hWD HC HC4
        refine wpG_t1 (i := 0) (v := ?v147) rfl (by kernel_rfl) (fun _ _ _ h => h) hS (Or.inl ⟨by rfl, ?hy147⟩) ?rest147
        case hy147 => (intro w' hw; obtain ⟨_, q1, q2, q3⟩ := hw; have u0 := q1.cell; have u1 := q2.cell; have d0 : w'.cell? ⟨g4, i, none⟩ = some (.int .i64 wi) := (by simpa using q3 0 _ rfl); go_simp; try with_reducible rfl)
        replace hS := SG.set (i := 0) (by decide) (by decide) hS
        try simp only [pL]
        refine wpG_t1 (i := 1) (v := ?v148) rfl (by kernel_rfl) (fun _ _ _ h => h) hS (Or.inl ⟨by rfl, ?hy148⟩) ?rest148
        case hy148 => (intro w' hw; obtain ⟨_, q1, q2, q3⟩ := hw; have u0 := q1.cell; have u1 := q2.cell; have d0 : w'.cell? ⟨g4, i, none⟩ = some (.int .i64 wi) := (by simpa using q3 0 _ rfl); go_simp; try with_reducible rfl)
        replace hS := SG.set (i := 1) (by decide) (by decide) hS
        try simp only [pL]
        refine wpG_t1 (i := 2) (v := ?v149) rfl (by kernel_rfl) (fun _ _ _ h => h) hS (Or.inl ⟨by rfl, ?hy149⟩) ?rest149
        case hy149 => (intro w' hw; obtain ⟨_, q1, q2, q3⟩ := hw; have u0 := q1.cell; have u1 := q2.cell; have d0 : w'.cell? ⟨g4, i, none⟩ = some (.int .i64 wi) := (by simpa using q3 0 _ rfl); go_simp; try with_reducible rfl)
        replace hS := SG.set (i := 2) (by decide) (by decide) hS
        try simp only [pL]
        refine wpG_t1 (i := 3) (v := ?v150) rfl (by kernel_rfl) (fun _ _ _ h => h) hS (Or.inl ⟨by rfl, ?hy150⟩) ?rest150
        case hy150 => (intro w' hw; obtain ⟨_, q1, q2, q3⟩ := hw; have u0 := q1.cell; have u1 := q2.cell; have d0 : w'.cell? ⟨g4, i, none⟩ = some (.int .i64 wi) := (by simpa using q3 0 _ rfl); go_simp; try with_reducible rfl)
        replace hS := SG.set (i := 3) (by decide) (by decide) hS
        try simp only [pL]
        refine wpG_t1 (i := 4) (v := ?v151) rfl (by kernel_rfl) (fun _ _ _ h => h) hS (Or.inl ⟨by rfl, ?hy151⟩) ?rest151
        case hy151 => (intro w' hw; obtain ⟨_, q1, q2, q3⟩ := hw; have u0 := q1.cell; have u1 := q2.cell; have d0 : w'.cell? ⟨g4, i, none⟩ = some (.int .i64 wi) := (by simpa using q3 0 _ rfl); go_simp; try with_reducible rfl)
        replace hS := SG.set (i := 4) (by decide) (by decide) hS
        try simp only [pL]
        refine wpG_t1 (i := 5) (v := ?v152) rfl (by kernel_rfl) (fun _ _ _ h => h) hS (Or.inl ⟨by rfl, ?hy152⟩) ?rest152
        case hy152 => (intro w' hw; obtain ⟨_, q1, q2, q3⟩ := hw; have u0 := q1.cell; have u1 := q2.cell; have d0 : w'.cell? ⟨g4, i, none⟩ = some (.int .i64 wi) := (by simpa using q3 0 _ rfl); go_simp; try with_reducible rfl)
        replace hS := SG.set (i := 5) (by decide) (by decide) hS
        try simp only [pL]
        refine wpG_t1 (i := 6) (v := ?v153) rfl (by kernel_rfl) (fun _ _ _ h => h) hS (Or.inl ⟨by rfl, ?hy153⟩) ?rest153
        case hy153 => (intro w' hw; obtain ⟨_, q1, q2, q3⟩ := hw; have u0 := q1.cell; have u1 := q2.cell; have d0 : w'.cell? ⟨g4, i, none⟩ = some (.int .i64 wi) := (by simpa using q3 0 _ rfl); go_simp; try with_reducible rfl)
        replace hS := SG.set (i := 6) (by decide) (by decide) hS
        try simp only [pL]
        refine wpG_t1 (i := 7) (v := ?v154) rfl (by kernel_rfl) (fun _ _ _ h => h) hS (Or.inl ⟨by rfl, ?hy154⟩) ?rest154
        case hy154 => (intro w' hw; obtain ⟨_, q1, q2, q3⟩ := hw; have u0 := q1.cell; have u1 := q2.cell; have d0 : w'.cell? ⟨g4, i, none⟩ = some (.int .i64 wi) := (by simpa using q3 0 _ rfl); go_simp; try with_reducible rfl)
        replace hS := SG.set (i := 7) (by decide) (by decide) hS
        try simp only [pL]
        refine wpG_t1 (i := 8) (v := ?v155) rfl (by kernel_rfl) (fun _ _ _ h => h) hS (Or.inl ⟨by rfl, ?hy155⟩) ?rest155
        case hy155 => (intro w' hw; obtain ⟨_, q1, q2, q3⟩ := hw; have u0 := q1.cell; have u1 := q2.cell; have d0 : w'.cell? ⟨g4, i, none⟩ = some (.int .i64 wi) := (by simpa using q3 0 _ rfl); go_simp; try with_reducible rfl)
        replace hS := SG.set (i := 8) (by decide) (by decide) hS
        try simp only [pL]
        refine wpG_t1 (i := 9) (v := ?v156) rfl (by kernel_rfl) (fun _ _ _ h => h) hS (Or.inl ⟨by rfl, ?hy156⟩) ?rest156
        case hy156 => (intro w' hw; obtain ⟨_, q1, q2, q3⟩ := hw; have u0 := q1.cell; have u1 := q2.cell; have d0 : w'.cell? ⟨g4, i, none⟩ = some (.int .i64 wi) := (by simpa using q3 0 _ rfl); go_simp; try with_reducible rfl)
        replace hS := SG.set (i := 9) (by decide) (by decide) hS
        try simp only [pL]
        refine wpG_t1 (i := 10) (v := ?v157) rfl (by kernel_rfl) (fun _ _ _ h => h) hS (Or.inl ⟨by rfl, ?hy157⟩) ?rest157
        case hy157 => (intro w' hw; obtain ⟨_, q1, q2, q3⟩ := hw; have u0 := q1.cell; have u1 := q2.cell; have d0 : w'.cell? ⟨g4, i, none⟩ = some (.int .i64 wi) := (by simpa using q3 0 _ rfl); go_simp; try with_reducible rfl)
        replace hS := SG.set (i := 10) (by decide) (by decide) hS
        try simp only [pL]
        refine wpG_t1 (i := 11) (v := ?v158) rfl (by kernel_rfl) (fun _ _ _ h => h) hS (Or.inl ⟨by rfl, ?hy158⟩) ?rest158
        case hy158 => (intro w' hw; obtain ⟨_, q1, q2, q3⟩ := hw; have u0 := q1.cell; have u1 := q2.cell; have d0 : w'.cell? ⟨g4, i, none⟩ = some (.int .i64 wi) := (by simpa using q3 0 _ rfl); go_simp; try with_reducible rfl)
        replace hS := SG.set (i := 11) (by decide) (by decide) hS
        try simp only [pL]
        refine wpG_t1 (i := 12) (v := ?v159) rfl (by kernel_rfl) (fun _ _ _ h => h) hS (Or.inl ⟨by rfl, ?hy159⟩) ?rest159
        case hy159 => (intro w' hw; obtain ⟨_, q1, q2, q3⟩ := hw; have u0 := q1.cell; have u1 := q2.cell; have d0 : w'.cell? ⟨g4, i, none⟩ = some (.int .i64 wi) := (by simpa using q3 0 _ rfl); go_simp; try with_reducible rfl)
        replace hS := SG.set (i := 12) (by decide) (by decide) hS
        try simp only [pL]
        refine wpG_t1 (i := 13) (v := ?v160) rfl (by kernel_rfl) (fun _ _ _ h => h) hS (Or.inl ⟨by rfl, ?hy160⟩) ?rest160
        case hy160 => (intro w' hw; obtain ⟨_, q1, q2, q3⟩ := hw; have u0 := q1.cell; have u1 := q2.cell; have d0 : w'.cell? ⟨g4, i, none⟩ = some (.int .i64 wi) := (by simpa using q3 0 _ rfl); go_simp; try with_reducible rfl)
        replace hS := SG.set (i := 13) (by decide) (by decide) hS
        try simp only [pL]
        clear hS
        have yc := HU.out.cell
        have yt := HU.out.thaw
        refine wpG_ready (rs := [14]) (by kernel_rfl) (by simp) ?_
        refine RG.cons rfl rfl (fun K' hK => ?_) RG.nil
        go_simp
        refine hK.out _ _ ⟨trivial, fun h => absurd (h : true = false) (by decide), fun _ => trivial⟩ (fun hS => ?_)
        clear hK K'
        try simp only [pL]
        clear hS yc yt
        refine wpG_done (by kernel_rfl) ?_ _
        obtain ⟨W1, hW1⟩ : ∃ W1, W1 = WD.setCell ⟨ub, 3, none⟩ (.int .i64 far) := ⟨_, rfl⟩
        have HU : Hid (RowB W1 ub 207 #[.int .i64 n.at_, .int .i64 (i : Int), .bool wr, .int .i64 far]) := by rw [hW1]; exact HU.out.put 3 (.int .i64 far)
        have H1 := Lib.hid (H1.out.set (p := ⟨ub, 3, none⟩) HUB.out (.int .i64 far))
        have G1 := Lib.hid (G1.out.far (p := ⟨ub, 3, none⟩) HUL.out.2 (.int .i64 far))
        rw [← hW1] at H1 G1 ⊢
        clear hW1 hwr
        obtain ⟨v1, hv1⟩ : ∃ v, v = Value.slice (some ⟨g1, 0, none⟩) s.bs.length c1 := ⟨_, rfl⟩
        obtain ⟨v4, hv4⟩ : ∃ v, v = Value.slice (some ⟨g4, 0, none⟩) s.within.length c4 := ⟨_, rfl⟩
        rw [← hv1, ← hv4] at H1
        clear hv1 hv4
        have HUB1 := HUB
        go_wp2_with fail
        have HR := HU
        refine wp_region_G (S := SG (fun _ => True) 12 (fun w' => RowB w' b 189 (wcc v1 v2 v3 v4 mb hv s.lam s.item) ∧ RowB w' ub 207 #[.int .i64 n.at_, .int .i64 (i : Int), .bool wr, .int .i64 far]) 99 (fun _ => True)) (by kernel_rfl) ⟨trivial, fun _ => ⟨H1.out.row, HR.out⟩, fun _ => trivial⟩ (fun hS => ?_)
        obtain ⟨WD, hWD⟩ : ∃ WD, WD = W1.drew := ⟨_, rfl⟩
        have H1 := Lib.hid (H1.out.drew)
        have G1 := Lib.hid (G1.out.trans (Gx.drew _ W1))
        replace HR := Lib.hid (show RowB W1.drew _ _ _ from HR.out)
        rw [← hWD] at hS H1 G1 HR ⊢
        clear hWD
        refine wpG_t1 (i := 0) (v := ?v161) rfl (by kernel_rfl) (fun _ _ _ h => h) hS (Or.inl ⟨by rfl, ?hy161⟩) ?rest161
        case hy161 => (intro w' hw; obtain ⟨_, q1, q2⟩ := hw; have u0 := q1.cell; have u1 := q2.cell; go_simp; try with_reducible rfl)
        replace hS := SG.set (i := 0) (by decide) (by decide) hS
        try simp only [pL]
        refine wpG_t1 (i := 1) (v := ?v162) rfl (by kernel_rfl) (fun _ _ _ h => h) hS (Or.inl ⟨by rfl, ?hy162⟩) ?rest162
        case hy162 => (intro w' hw; obtain ⟨_, q1, q2⟩ := hw; have u0 := q1.cell; have u1 := q2.cell; go_simp; try with_reducible rfl)
        replace hS := SG.set (i := 1) (by decide) (by decide) hS
        try simp only [pL]
        refine wpG_t1 (i := 2) (v := ?v163) rfl (by kernel_rfl) (fun _ _ _ h => h) hS (Or.inl ⟨by rfl, ?hy163⟩) ?rest163
        case hy163 => (intro w' hw; obtain ⟨_, q1, q2⟩ := hw; have u0 := q1.cell; have u1 := q2.cell; go_simp; try with_reducible rfl)
        replace hS := SG.set (i := 2) (by decide) (by decide) hS
        try simp only [pL]
        refine wpG_t1 (i := 3) (v := ?v164) rfl (by kernel_rfl) (fun _ _ _ h => h) hS (Or.inl ⟨by rfl, ?hy164⟩) ?rest164
        case hy164 => (intro w' hw; obtain ⟨_, q1, q2⟩ := hw; have u0 := q1.cell; have u1 := q2.cell; go_simp; try with_reducible rfl)
        replace hS := SG.set (i := 3) (by decide) (by decide) hS
        try simp only [pL]
        refine wpG_t1 (i := 4) (v := ?v165) rfl (by kernel_rfl) (fun _ _ _ h => h) hS (Or.inl ⟨by rfl, ?hy165⟩) ?rest165
        case hy165 => (intro w' hw; obtain ⟨_, q1, q2⟩ := hw; have u0 := q1.cell; have u1 := q2.cell; go_simp; try with_reducible rfl)
        replace hS := SG.set (i := 4) (by decide) (by decide) hS
        try simp only [pL]
        refine wpG_t1 (i := 5) (v := ?v166) rfl (by kernel_rfl) (fun _ _ _ h => h) hS (Or.inl ⟨by rfl, ?hy166⟩) ?rest166
        case hy166 => (intro w' hw; obtain ⟨_, q1, q2⟩ := hw; have u0 := q1.cell; have u1 := q2.cell; go_simp; try with_reducible rfl)
        replace hS := SG.set (i := 5) (by decide) (by decide) hS
        try simp only [pL]
        refine wpG_t1 (i := 6) (v := ?v167) rfl (by kernel_rfl) (fun _ _ _ h => h) hS (Or.inl ⟨by rfl, ?hy167⟩) ?rest167
        case hy167 => (intro w' hw; obtain ⟨_, q1, q2⟩ := hw; have u0 := q1.cell; have u1 := q2.cell; go_simp; try with_reducible rfl)
        replace hS := SG.set (i := 6) (by decide) (by decide) hS
        try simp only [pL]
        clear hS
        have H2 := Lib.hid (H1.out.alloc (.cells #[.int .i64 n.at_, .int .i64 (i : Int), .bool wr, .int .i64 far] 207))
        have G2 := Lib.hid (G1.out.trans (Gx.alloc _ WD (.cells #[.int .i64 n.at_, .int .i64 (i : Int), .bool wr, .int .i64 far] 207)))
        have RN := Lib.hid (RowB.new WD 207 #[.int .i64 n.at_, .int .i64 (i : Int), .bool wr, .int .i64 far])
        have HR2 := Lib.hid (HR.out.alloc (.cells #[.int .i64 n.at_, .int .i64 (i : Int), .bool wr, .int .i64 far] 207))
        refine wpG_ready (rs := [7]) (by kernel_rfl) (by simp) ?_
        refine RG.cons rfl rfl (fun K' hK => ?_) RG.nil
        go_simp
        refine hK.out _ _ ⟨trivial, fun _ => ⟨H2.out.row, HR2.out⟩, fun _ => trivial⟩ (fun hS => ?_)
        clear hK K'
        try simp only [pL]
        clear hS
        obtain ⟨W2, hW2⟩ : ∃ W2, W2 = WD.alloc (.cells #[.int .i64 n.at_, .int .i64 (i : Int), .bool wr, .int .i64 far] 207) := ⟨_, rfl⟩
        rw [← hW2] at H2 G2 RN HR2 ⊢
        obtain ⟨v', W3, hr, ho, hg, hl⟩ := app_at (w := W2) (t := 47) (e := 207) (size := 4) (bytes := 32) (z := .agg #[.int .i64 0, .int .i64 0, .bool false, .int .i64 0]) Tryz.underlying47 (by kernel_rfl) rfl (by decide) (by decide) B v2 _ _ H2.out.o2 _ _ RN.out rfl (by intro u hu; simp at hu; rcases hu with rfl | rfl | rfl | rfl <;> rfl) (by have := H2.out.sum; omega) (by have := (H2.out.lt _ H2.out.kb); simp only at this; omega) 47
        have r3 : RowB W3 b 189 (wcc v1 v2 v3 v4 mb hv s.lam s.item) := (hg.block _ H2.out.row.lt (fun e => own_ne_row H2.out.o2 H2.out.row (by decide) e.symm)).trans H2.out.row
        have b3 : RowB W3 ub 207 #[.int .i64 n.at_, .int .i64 (i : Int), .bool wr, .int .i64 far] := (hg.block _ HR2.out.lt (fun e => HUB1.out (H2.out.k2 _ e.symm))).trans HR2.out
        have FIN := Lib.hid (H2.out.app2 (x := ⟨n.at_, (i : Int), wr, far⟩) ho hg hl)
        obtain ⟨A', c', rfl, _⟩ := own_shape ho
        have R3 := Lib.hid r3
        have B3 := Lib.hid b3
        clear ho hg hl r3 b3 hW2 H2 HR2 RN
        refine wpG_ready (rs := [8]) (by kernel_rfl) (by simp) ?_
        refine RG.cons rfl rfl (fun K' hK => ?_) RG.nil
        refine wp_append_run (.tmp 58) (.tmp 60) 47 (by rfl) (by rfl) (by rfl) hr ?_
        refine hK.out _ _ ⟨trivial, fun _ => ⟨R3.out, B3.out⟩, fun _ => trivial⟩ (fun hS => ?_)
        clear hK K'
        try simp only [pL]
        clear hr
        refine wpG_t0 (i := 9) (v := ?v168) rfl (by kernel_rfl) (fun _ _ _ h => h) hS (Or.inl ⟨by rfl, ?hy168⟩) ?rest168
        case hy168 => (intro w' hw; go_simp; try with_reducible rfl)
        replace hS := SG.set (i := 9) (by decide) (by decide) hS
        try simp only [pL]
        refine wpG_t0 (i := 10) (v := ?v169) rfl (by kernel_rfl) (fun _ _ _ h => h) hS (Or.inl ⟨by rfl, ?hy169⟩) ?rest169
        case hy169 => (intro w' hw; go_simp; try with_reducible rfl)
        replace hS := SG.set (i := 10) (by decide) (by decide) hS
        try simp only [pL]
        refine wpG_t0 (i := 11) (v := ?v170) rfl (by kernel_rfl) (fun _ _ _ h => h) hS (Or.inl ⟨by rfl, ?hy170⟩) ?rest170
        case hy170 => (intro w' hw; go_simp; try with_reducible rfl)
        replace hS := SG.set (i := 11) (by decide) (by decide) hS
        try simp only [pL]
        clear hS
        have yc := R3.out.cell
        have yt := R3.out.thaw
        refine wpG_ready (rs := [12]) (by kernel_rfl) (by simp) ?_
        refine RG.cons rfl rfl (fun K' hK => ?_) RG.nil
        go_simp
        refine hK.out _ _ ⟨trivial, fun h => absurd (h : true = false) (by decide), fun _ => trivial⟩ (fun hS => ?_)
        clear hK K'
        try simp only [pL]
        clear hS yc yt R3
        refine wpG_done (by kernel_rfl) ?_ _
        go_end0
        have FE := (FIN.out.1).mono (N' := N + 2) (by omega)
        rw [HTV.out] at FE
        rw [men_eq n.at_ n.word wr s s far HMEN.out] at FE
        exact ⟨rfl, _, ⟨_, _, _, _, _, _, FE⟩, G2.out.trans FIN.out.2⟩
      | true =>
        rw [hq, if_neg (by simp)] at HMX
        clear hq
        simp only [Bool.not_true]
        obtain ⟨v1, hv1⟩ : ∃ v, v = Value.slice (some ⟨g1, 0, none⟩) s.bs.length c1 := ⟨_, rfl⟩
        obtain ⟨v4, hv4⟩ : ∃ v, v = Value.slice (some ⟨g4, 0, none⟩) s.within.length c4 := ⟨_, rfl⟩
        rw [← hv1, ← hv4] at H1
        clear hv1 hv4 HC HC4
        cases wr with
        | true =>
          have y0 := HR.out.cell
          have y1 := HU.out.cell
          go_wp2_with fail
          have CW := Lib.hid (wrong_any H1.out n A k c 35 (by omega))
          simp only [hvv] at CW
          refine CW.out.mono ?_
          rintro e W4 ⟨rfl, K1, ⟨v1, v2, v3, v4, m1, n1, h2⟩, g2⟩
          clear y0 y1
          have HU := Lib.hid (g2.row HU.out HUB.out)
          have HUB1 : Hid (¬ K1 ub) := fun hk => by
            rcases g2.own ub hk with h1 | h1
            · exact HUB.out h1
            · have := HUS1.out; omega
          have G1 := Lib.hid (G1.out.trans g2)
          have H1 := Lib.hid h2
          clear h2 g2 CW
          obtain ⟨s0, hs0⟩ : ∃ s0 : St, s0 = s.wrong n.at_ 35 := ⟨_, rfl⟩
          rw [← hs0] at H1
          have HMEN : Hid ((s0, (0 : Int)) = men0 n.at_ n.word true s) := by unfold Hid; rw [HMX.out, hs0]; simp
          clear hs0
          obtain ⟨W1, hW1⟩ : ∃ W1, W1 = W4 := ⟨_, rfl⟩
          rw [← hW1] at H1 G1 HU ⊢
          clear hW1
          go_wp2_with fail
          have HR := HU
          refine wp_region_G (S := SG (fun _ => True) 12 (fun w' => RowB w' b 189 (wcc v1 v2 v3 v4 mb hv s0.lam s0.item) ∧ RowB w' ub 207 #[.int .i64 n.at_, .int .i64 (i : Int), .bool true, .int .i64 0]) 99 (fun _ => True)) (by kernel_rfl) ⟨trivial, fun _ => ⟨H1.out.row, HR.out⟩, fun _ => trivial⟩ (fun hS => ?_)
          obtain ⟨WD, hWD⟩ : ∃ WD, WD = W1.drew := ⟨_, rfl⟩
          have H1 := Lib.hid (H1.out.drew)
          have G1 := Lib.hid (G1.out.trans (Gx.drew _ W1))
          replace HR := Lib.hid (show RowB W1.drew _ _ _ from HR.out)
          rw [← hWD] at hS H1 G1 HR ⊢
          clear hWD
          refine wpG_t1 (i := 0) (v := ?v171) rfl (by kernel_rfl) (fun _ _ _ h => h) hS (Or.inl ⟨by rfl, ?hy171⟩) ?rest171
          case hy171 => (intro w' hw; obtain ⟨_, q1, q2⟩ := hw; have u0 := q1.cell; have u1 := q2.cell; go_simp; try with_reducible rfl)
          replace hS := SG.set (i := 0) (by decide) (by decide) hS
          try simp only [pL]
          refine wpG_t1 (i := 1) (v := ?v172) rfl (by kernel_rfl) (fun _ _ _ h => h) hS (Or.inl ⟨by rfl, ?hy172⟩) ?rest172
          case hy172 => (intro w' hw; obtain ⟨_, q1, q2⟩ := hw; have u0 := q1.cell; have u1 := q2.cell; go_simp; try with_reducible rfl)
          replace hS := SG.set (i := 1) (by decide) (by decide) hS
          try simp only [pL]
          refine wpG_t1 (i := 2) (v := ?v173) rfl (by kernel_rfl) (fun _ _ _ h => h) hS (Or.inl ⟨by rfl, ?hy173⟩) ?rest173
          case hy173 => (intro w' hw; obtain ⟨_, q1, q2⟩ := hw; have u0 := q1.cell; have u1 := q2.cell; go_simp; try with_reducible rfl)
          replace hS := SG.set (i := 2) (by decide) (by decide) hS
          try simp only [pL]
          refine wpG_t1 (i := 3) (v := ?v174) rfl (by kernel_rfl) (fun _ _ _ h => h) hS (Or.inl ⟨by rfl, ?hy174⟩) ?rest174
          case hy174 => (intro w' hw; obtain ⟨_, q1, q2⟩ := hw; have u0 := q1.cell; have u1 := q2.cell; go_simp; try with_reducible rfl)
          replace hS := SG.set (i := 3) (by decide) (by decide) hS
          try simp only [pL]
          refine wpG_t1 (i := 4) (v := ?v175) rfl (by kernel_rfl) (fun _ _ _ h => h) hS (Or.inl ⟨by rfl, ?hy175⟩) ?rest175
          case hy175 => (intro w' hw; obtain ⟨_, q1, q2⟩ := hw; have u0 := q1.cell; have u1 := q2.cell; go_simp; try with_reducible rfl)
          replace hS := SG.set (i := 4) (by decide) (by decide) hS
          try simp only [pL]
          refine wpG_t1 (i := 5) (v := ?v176) rfl (by kernel_rfl) (fun _ _ _ h => h) hS (Or.inl ⟨by rfl, ?hy176⟩) ?rest176
          case hy176 => (intro w' hw; obtain ⟨_, q1, q2⟩ := hw; have u0 := q1.cell; have u1 := q2.cell; go_simp; try with_reducible rfl)
          replace hS := SG.set (i := 5) (by decide) (by decide) hS
          try simp only [pL]
          refine wpG_t1 (i := 6) (v := ?v177) rfl (by kernel_rfl) (fun _ _ _ h => h) hS (Or.inl ⟨by rfl, ?hy177⟩) ?rest177
          case hy177 => (intro w' hw; obtain ⟨_, q1, q2⟩ := hw; have u0 := q1.cell; have u1 := q2.cell; go_simp; try with_reducible rfl)
          replace hS := SG.set (i := 6) (by decide) (by decide) hS
          try simp only [pL]
          clear hS
          have H2 := Lib.hid (H1.out.alloc (.cells #[.int .i64 n.at_, .int .i64 (i : Int), .bool true, .int .i64 0] 207))
          have G2 := Lib.hid (G1.out.trans (Gx.alloc _ WD (.cells #[.int .i64 n.at_, .int .i64 (i : Int), .bool true, .int .i64 0] 207)))
          have RN := Lib.hid (RowB.new WD 207 #[.int .i64 n.at_, .int .i64 (i : Int), .bool true, .int .i64 0])
          have HR2 := Lib.hid (HR.out.alloc (.cells #[.int .i64 n.at_, .int .i64 (i : Int), .bool true, .int .i64 0] 207))
          refine wpG_ready (rs := [7]) (by kernel_rfl) (by simp) ?_
          refine RG.cons rfl rfl (fun K' hK => ?_) RG.nil
          go_simp
          refine hK.out _ _ ⟨trivial, fun _ => ⟨H2.out.row, HR2.out⟩, fun _ => trivial⟩ (fun hS => ?_)
          clear hK K'
          try simp only [pL]
          clear hS
          obtain ⟨W2, hW2⟩ : ∃ W2, W2 = WD.alloc (.cells #[.int .i64 n.at_, .int .i64 (i : Int), .bool true, .int .i64 0] 207) := ⟨_, rfl⟩
          rw [← hW2] at H2 G2 RN HR2 ⊢
          obtain ⟨v', W3, hr, ho, hg, hl⟩ := app_at (w := W2) (t := 47) (e := 207) (size := 4) (bytes := 32) (z := .agg #[.int .i64 0, .int .i64 0, .bool false, .int .i64 0]) Tryz.underlying47 (by kernel_rfl) rfl (by decide) (by decide) B v2 _ _ H2.out.o2 _ _ RN.out rfl (by intro u hu; simp at hu; rcases hu with rfl | rfl | rfl | rfl <;> rfl) (by have := H2.out.sum; omega) (by have := (H2.out.lt _ H2.out.kb); simp only at this; omega) 47
          have r3 : RowB W3 b 189 (wcc v1 v2 v3 v4 mb hv s0.lam s0.item) := (hg.block _ H2.out.row.lt (fun e => own_ne_row H2.out.o2 H2.out.row (by decide) e.symm)).trans H2.out.row
          have b3 : RowB W3 ub 207 #[.int .i64 n.at_, .int .i64 (i : Int), .bool true, .int .i64 0] := (hg.block _ HR2.out.lt (fun e => HUB1.out (H2.out.k2 _ e.symm))).trans HR2.out
          have FIN := Lib.hid (H2.out.app2 (x := ⟨n.at_, (i : Int), true, 0⟩) ho hg hl)
          obtain ⟨A', c', rfl, _⟩ := own_shape ho
          have R3 := Lib.hid r3
          have B3 := Lib.hid b3
          clear ho hg hl r3 b3 hW2 H2 HR2 RN
          refine wpG_ready (rs := [8]) (by kernel_rfl) (by simp) ?_
          refine RG.cons rfl rfl (fun K' hK => ?_) RG.nil
          refine wp_append_run (.tmp 58) (.tmp 60) 47 (by rfl) (by rfl) (by rfl) hr ?_
          refine hK.out _ _ ⟨trivial, fun _ => ⟨R3.out, B3.out⟩, fun _ => trivial⟩ (fun hS => ?_)
          clear hK K'
          try simp only [pL]
          clear hr
          refine wpG_t0 (i := 9) (v := ?v178) rfl (by kernel_rfl) (fun _ _ _ h => h) hS (Or.inl ⟨by rfl, ?hy178⟩) ?rest178
          case hy178 => (intro w' hw; go_simp; try with_reducible rfl)
          replace hS := SG.set (i := 9) (by decide) (by decide) hS
          try simp only [pL]
          refine wpG_t0 (i := 10) (v := ?v179) rfl (by kernel_rfl) (fun _ _ _ h => h) hS (Or.inl ⟨by rfl, ?hy179⟩) ?rest179
          case hy179 => (intro w' hw; go_simp; try with_reducible rfl)
          replace hS := SG.set (i := 10) (by decide) (by decide) hS
          try simp only [pL]
          refine wpG_t0 (i := 11) (v := ?v180) rfl (by kernel_rfl) (fun _ _ _ h => h) hS (Or.inl ⟨by rfl, ?hy180⟩) ?rest180
          case hy180 => (intro w' hw; go_simp; try with_reducible rfl)
          replace hS := SG.set (i := 11) (by decide) (by decide) hS
          try simp only [pL]
          clear hS
          have yc := R3.out.cell
          have yt := R3.out.thaw
          refine wpG_ready (rs := [12]) (by kernel_rfl) (by simp) ?_
          refine RG.cons rfl rfl (fun K' hK => ?_) RG.nil
          go_simp
          refine hK.out _ _ ⟨trivial, fun h => absurd (h : true = false) (by decide), fun _ => trivial⟩ (fun hS => ?_)
          clear hK K'
          try simp only [pL]
          clear hS yc yt R3
          refine wpG_done (by kernel_rfl) ?_ _
          go_end0
          have FE := (FIN.out.1).mono (N' := N + 2) (by omega)
          rw [HTV.out] at FE
          rw [men_eq n.at_ n.word true s s0 0 HMEN.out] at FE
          exact ⟨rfl, _, ⟨_, _, _, _, _, _, FE⟩, G2.out.trans FIN.out.2⟩
        | false =>
          have HMEN : Hid ((s, (0 : Int)) = men0 n.at_ n.word false s) := by unfold Hid; rw [HMX.out]; simp
          have HUB1 := HUB
          go_wp2_with fail
          have HR := HU
          refine wp_region_G (S := SG (fun _ => True) 12 (fun w' => RowB w' b 189 (wcc v1 v2 v3 v4 mb hv s.lam s.item) ∧ RowB w' ub 207 #[.int .i64 n.at_, .int .i64 (i : Int), .bool false, .int .i64 0]) 99 (fun _ => True)) (by kernel_rfl) ⟨trivial, fun _ => ⟨H1.out.row, HR.out⟩, fun _ => trivial⟩ (fun hS => ?_)
          obtain ⟨WD, hWD⟩ : ∃ WD, WD = W1.drew := ⟨_, rfl⟩
          have H1 := Lib.hid (H1.out.drew)
          have G1 := Lib.hid (G1.out.trans (Gx.drew _ W1))
          replace HR := Lib.hid (show RowB W1.drew _ _ _ from HR.out)
          rw [← hWD] at hS H1 G1 HR ⊢
          clear hWD
          refine wpG_t1 (i := 0) (v := ?v181) rfl (by kernel_rfl) (fun _ _ _ h => h) hS (Or.inl ⟨by rfl, ?hy181⟩) ?rest181
          case hy181 => (intro w' hw; obtain ⟨_, q1, q2⟩ := hw; have u0 := q1.cell; have u1 := q2.cell; go_simp; try with_reducible rfl)
          replace hS := SG.set (i := 0) (by decide) (by decide) hS
          try simp only [pL]
          refine wpG_t1 (i := 1) (v := ?v182) rfl (by kernel_rfl) (fun _ _ _ h => h) hS (Or.inl ⟨by rfl, ?hy182⟩) ?rest182
          case hy182 => (intro w' hw; obtain ⟨_, q1, q2⟩ := hw; have u0 := q1.cell; have u1 := q2.cell; go_simp; try with_reducible rfl)
          replace hS := SG.set (i := 1) (by decide) (by decide) hS
          try simp only [pL]
          refine wpG_t1 (i := 2) (v := ?v183) rfl (by kernel_rfl) (fun _ _ _ h => h) hS (Or.inl ⟨by rfl, ?hy183⟩) ?rest183
          case hy183 => (intro w' hw; obtain ⟨_, q1, q2⟩ := hw; have u0 := q1.cell; have u1 := q2.cell; go_simp; try with_reducible rfl)
          replace hS := SG.set (i := 2) (by decide) (by decide) hS
          try simp only [pL]
          refine wpG_t1 (i := 3) (v := ?v184) rfl (by kernel_rfl) (fun _ _ _ h => h) hS (Or.inl ⟨by rfl, ?hy184⟩) ?rest184
          case hy184 => (intro w' hw; obtain ⟨_, q1, q2⟩ := hw; have u0 := q1.cell; have u1 := q2.cell; go_simp; try with_reducible rfl)
          replace hS := SG.set (i := 3) (by decide) (by decide) hS
          try simp only [pL]
          refine wpG_t1 (i := 4) (v := ?v185) rfl (by kernel_rfl) (fun _ _ _ h => h) hS (Or.inl ⟨by rfl, ?hy185⟩) ?rest185
          case hy185 => (intro w' hw; obtain ⟨_, q1, q2⟩ := hw; have u0 := q1.cell; have u1 := q2.cell; go_simp; try with_reducible rfl)
          replace hS := SG.set (i := 4) (by decide) (by decide) hS
          try simp only [pL]
          refine wpG_t1 (i := 5) (v := ?v186) rfl (by kernel_rfl) (fun _ _ _ h => h) hS (Or.inl ⟨by rfl, ?hy186⟩) ?rest186
          case hy186 => (intro w' hw; obtain ⟨_, q1, q2⟩ := hw; have u0 := q1.cell; have u1 := q2.cell; go_simp; try with_reducible rfl)
          replace hS := SG.set (i := 5) (by decide) (by decide) hS
          try simp only [pL]
          refine wpG_t1 (i := 6) (v := ?v187) rfl (by kernel_rfl) (fun _ _ _ h => h) hS (Or.inl ⟨by rfl, ?hy187⟩) ?rest187
          case hy187 => (intro w' hw; obtain ⟨_, q1, q2⟩ := hw; have u0 := q1.cell; have u1 := q2.cell; go_simp; try with_reducible rfl)
          replace hS := SG.set (i := 6) (by decide) (by decide) hS
          try simp only [pL]
          clear hS
          have H2 := Lib.hid (H1.out.alloc (.cells #[.int .i64 n.at_, .int .i64 (i : Int), .bool false, .int .i64 0] 207))
          have G2 := Lib.hid (G1.out.trans (Gx.alloc _ WD (.cells #[.int .i64 n.at_, .int .i64 (i : Int), .bool false, .int .i64 0] 207)))
          have RN := Lib.hid (RowB.new WD 207 #[.int .i64 n.at_, .int .i64 (i : Int), .bool false, .int .i64 0])
          have HR2 := Lib.hid (HR.out.alloc (.cells #[.int .i64 n.at_, .int .i64 (i : Int), .bool false, .int .i64 0] 207))
          refine wpG_ready (rs := [7]) (by kernel_rfl) (by simp) ?_
          refine RG.cons rfl rfl (fun K' hK => ?_) RG.nil
          go_simp
          refine hK.out _ _ ⟨trivial, fun _ => ⟨H2.out.row, HR2.out⟩, fun _ => trivial⟩ (fun hS => ?_)
          clear hK K'
          try simp only [pL]
          clear hS
          obtain ⟨W2, hW2⟩ : ∃ W2, W2 = WD.alloc (.cells #[.int .i64 n.at_, .int .i64 (i : Int), .bool false, .int .i64 0] 207) := ⟨_, rfl⟩
          rw [← hW2] at H2 G2 RN HR2 ⊢
          obtain ⟨v', W3, hr, ho, hg, hl⟩ := app_at (w := W2) (t := 47) (e := 207) (size := 4) (bytes := 32) (z := .agg #[.int .i64 0, .int .i64 0, .bool false, .int .i64 0]) Tryz.underlying47 (by kernel_rfl) rfl (by decide) (by decide) B v2 _ _ H2.out.o2 _ _ RN.out rfl (by intro u hu; simp at hu; rcases hu with rfl | rfl | rfl | rfl <;> rfl) (by have := H2.out.sum; omega) (by have := (H2.out.lt _ H2.out.kb); simp only at this; omega) 47
          have r3 : RowB W3 b 189 (wcc v1 v2 v3 v4 mb hv s.lam s.item) := (hg.block _ H2.out.row.lt (fun e => own_ne_row H2.out.o2 H2.out.row (by decide) e.symm)).trans H2.out.row
          have b3 : RowB W3 ub 207 #[.int .i64 n.at_, .int .i64 (i : Int), .bool false, .int .i64 0] := (hg.block _ HR2.out.lt (fun e => HUB1.out (H2.out.k2 _ e.symm))).trans HR2.out
          have FIN := Lib.hid (H2.out.app2 (x := ⟨n.at_, (i : Int), false, 0⟩) ho hg hl)
          obtain ⟨A', c', rfl, _⟩ := own_shape ho
          have R3 := Lib.hid r3
          have B3 := Lib.hid b3
          clear ho hg hl r3 b3 hW2 H2 HR2 RN
          refine wpG_ready (rs := [8]) (by kernel_rfl) (by simp) ?_
          refine RG.cons rfl rfl (fun K' hK => ?_) RG.nil
          refine wp_append_run (.tmp 58) (.tmp 60) 47 (by rfl) (by rfl) (by rfl) hr ?_
          refine hK.out _ _ ⟨trivial, fun _ => ⟨R3.out, B3.out⟩, fun _ => trivial⟩ (fun hS => ?_)
          clear hK K'
          try simp only [pL]
          clear hr
          refine wpG_t0 (i := 9) (v := ?v188) rfl (by kernel_rfl) (fun _ _ _ h => h) hS (Or.inl ⟨by rfl, ?hy188⟩) ?rest188
          case hy188 => (intro w' hw; go_simp; try with_reducible rfl)
          replace hS := SG.set (i := 9) (by decide) (by decide) hS
          try simp only [pL]
          refine wpG_t0 (i := 10) (v := ?v189) rfl (by kernel_rfl) (fun _ _ _ h => h) hS (Or.inl ⟨by rfl, ?hy189⟩) ?rest189
          case hy189 => (intro w' hw; go_simp; try with_reducible rfl)
          replace hS := SG.set (i := 10) (by decide) (by decide) hS
          try simp only [pL]
          refine wpG_t0 (i := 11) (v := ?v190) rfl (by kernel_rfl) (fun _ _ _ h => h) hS (Or.inl ⟨by rfl, ?hy190⟩) ?rest190
          case hy190 => (intro w' hw; go_simp; try with_reducible rfl)
          replace hS := SG.set (i := 11) (by decide) (by decide) hS
          try simp only [pL]
          clear hS
          have yc := R3.out.cell
          have yt := R3.out.thaw
          refine wpG_ready (rs := [12]) (by kernel_rfl) (by simp) ?_
          refine RG.cons rfl rfl (fun K' hK => ?_) RG.nil
          go_simp
          refine hK.out _ _ ⟨trivial, fun h => absurd (h : true = false) (by decide), fun _ => trivial⟩ (fun hS => ?_)
          clear hK K'
          try simp only [pL]
          clear hS yc yt R3
          refine wpG_done (by kernel_rfl) ?_ _
          go_end0
          have FE := (FIN.out.1).mono (N' := N + 2) (by omega)
          rw [HTV.out] at FE
          rw [men_eq n.at_ n.word false s s 0 HMEN.out] at FE
          exact ⟨rfl, _, ⟨_, _, _, _, _, _, FE⟩, G2.out.trans FIN.out.2⟩
  · go_simp
    rw [← hub, ← hW2]
    refine hK.out _ _ ⟨trivial, fun _ => ⟨H2.out.row, HR2.out⟩, fun _ => trivial⟩ (fun hS => ?_)
    clear hK K'
    try simp only [pL]
    clear H1 G1 HR hub hW2 hS
    have CM := Lib.hid (meant_any H2.out hx)
    refine wpG_ready (rs := [5]) (by kernel_rfl) (by simp) ?_
    refine RG.cons rfl rfl (fun K' hK => ?_) RG.nil
    go_simp
    refine CM.out.mono ?_
    rintro e W9 ⟨rfl, hw9⟩
    rw [hw9]; clear hw9 CM
    rw [← HTV.out]
    go_wp2_with fail
    refine hK.out _ _ ⟨trivial, fun _ => ⟨H2.out.row, HR2.out⟩, fun _ => trivial⟩ (fun hS => ?_)
    clear hK K'
    try simp only [pL]
    refine wpG_t1 (i := 7) (v := ?v191) rfl (by kernel_rfl) (fun _ _ _ h => h) hS (Or.inl ⟨by rfl, ?hy191⟩) ?rest191
    case hy191 => (intro w' hw; obtain ⟨_, q1, q2⟩ := hw; have u0 := q1.cell; have u1 := q2.cell; go_simp; try with_reducible rfl)
    replace hS := SG.set (i := 7) (by decide) (by decide) hS
    try simp only [pL]
    clear hS
    refine wpG_ready (rs := [9]) (by kernel_rfl) (by simp) ?_
    refine RG.cons rfl rfl (fun K' hK => ?_) RG.nil
    have yc := RU.out.cell
    have yt := RU.out.thaw
    go_simp
    clear yc yt
    refine hK.out _ _ ⟨trivial, fun h => absurd (h : true = false) (by decide), fun _ => trivial⟩ (fun hS => ?_)
    clear hK K'
    try simp only [pL]
    clear hS
    refine wpG_done (by kernel_rfl) ?_ _
    obtain ⟨W1, hW1⟩ : ∃ W1, W1 = (((W2.setCell ⟨ub, 0, none⟩ (.int .i64 n.at_)).setCell ⟨ub, 1, none⟩ (.int .i64 tv)).setCell ⟨ub, 2, none⟩ (.bool wr)).setCell ⟨ub, 3, none⟩ (.int .i64 0) := ⟨_, rfl⟩
    have HU : Hid (RowB W1 ub 207 #[.int .i64 n.at_, .int .i64 tv, .bool wr, .int .i64 0]) := by rw [hW1]; exact (((RU.out.put 0 (.int .i64 n.at_)).put 1 (.int .i64 tv)).put 2 (.bool wr)).put 3 (.int .i64 0)
    have H1 := Lib.hid ((((H2.out.set (p := ⟨ub, 0, none⟩) HUB.out (.int .i64 n.at_)).set (p := ⟨ub, 1, none⟩) HUB.out (.int .i64 tv)).set (p := ⟨ub, 2, none⟩) HUB.out (.bool wr)).set (p := ⟨ub, 3, none⟩) HUB.out (.int .i64 0))
    have G1 := Lib.hid ((((G2.out.far (p := ⟨ub, 0, none⟩) HUL.out.2 (.int .i64 n.at_)).far (p := ⟨ub, 1, none⟩) HUL.out.2 (.int .i64 tv)).far (p := ⟨ub, 2, none⟩) HUL.out.2 (.bool wr)).far (p := ⟨ub, 3, none⟩) HUL.out.2 (.int .i64 0))
    have HR := Lib.hid ((((HR2.out.far (p := ⟨ub, 0, none⟩) HUL.out.1 (.int .i64 n.at_)).far (p := ⟨ub, 1, none⟩) HUL.out.1 (.int .i64 tv)).far (p := ⟨ub, 2, none⟩) HUL.out.1 (.bool wr)).far (p := ⟨ub, 3, none⟩) HUL.out.1 (.int .i64 0))
    rw [← hW1] at H1 G1 HR ⊢
    clear hW1 H2 G2 HR2 RU
    have HUS1 : Hid (ub < W1.heap.size) := HU.out.lt
    have HM := OK.out.means n.word
    rw [← HTV.out] at HM
    by_cases h0 : tv = -1
    · subst h0
      clear HM
      have y0 := HR.out.cell
      have y1 := HU.out.cell
      go_wp2_with fail
      have CW := Lib.hid (wrong_any H1.out n A k c 30 (by omega))
      simp only [hvv] at CW
      refine CW.out.mono ?_
      rintro e W4 ⟨rfl, K1, ⟨v1, v2, v3, v4, m1, n1, h2⟩, g2⟩
      clear y0 y1
      have HU := Lib.hid (g2.row HU.out HUB.out)
      have HUB1 : Hid (¬ K1 ub) := fun hk => by
        rcases g2.own ub hk with h1 | h1
        · exact HUB.out h1
        · have := HUS1.out; omega
      have G1 := Lib.hid (G1.out.trans g2)
      have H1 := Lib.hid h2
      clear h2 g2 CW
      obtain ⟨s0, hs0⟩ : ∃ s0 : St, s0 = s.wrong n.at_ 30 := ⟨_, rfl⟩
      rw [← hs0] at H1
      have HMEN : Hid ((s0, (0 : Int)) = men0 n.at_ n.word wr s) := by unfold Hid men0; rw [if_pos HTV.out.symm, hs0]
      clear hs0
      obtain ⟨W1, hW1⟩ : ∃ W1, W1 = W4 := ⟨_, rfl⟩
      rw [← hW1] at H1 G1 HU ⊢
      clear hW1
      go_wp2_with fail
      have HR := HU
      refine wp_region_G (S := SG (fun _ => True) 12 (fun w' => RowB w' b 189 (wcc v1 v2 v3 v4 mb hv s0.lam s0.item) ∧ RowB w' ub 207 #[.int .i64 n.at_, .int .i64 (-1), .bool wr, .int .i64 0]) 99 (fun _ => True)) (by kernel_rfl) ⟨trivial, fun _ => ⟨H1.out.row, HR.out⟩, fun _ => trivial⟩ (fun hS => ?_)
      obtain ⟨WD, hWD⟩ : ∃ WD, WD = W1.drew := ⟨_, rfl⟩
      have H1 := Lib.hid (H1.out.drew)
      have G1 := Lib.hid (G1.out.trans (Gx.drew _ W1))
      replace HR := Lib.hid (show RowB W1.drew _ _ _ from HR.out)
      rw [← hWD] at hS H1 G1 HR ⊢
      clear hWD
      refine wpG_t1 (i := 0) (v := ?v192) rfl (by kernel_rfl) (fun _ _ _ h => h) hS (Or.inl ⟨by rfl, ?hy192⟩) ?rest192
      case hy192 => (intro w' hw; obtain ⟨_, q1, q2⟩ := hw; have u0 := q1.cell; have u1 := q2.cell; go_simp; try with_reducible rfl)
      replace hS := SG.set (i := 0) (by decide) (by decide) hS
      try simp only [pL]
      refine wpG_t1 (i := 1) (v := ?v193) rfl (by kernel_rfl) (fun _ _ _ h => h) hS (Or.inl ⟨by rfl, ?hy193⟩) ?rest193
      case hy193 => (intro w' hw; obtain ⟨_, q1, q2⟩ := hw; have u0 := q1.cell; have u1 := q2.cell; go_simp; try with_reducible rfl)
      replace hS := SG.set (i := 1) (by decide) (by decide) hS
      try simp only [pL]
      refine wpG_t1 (i := 2) (v := ?v194) rfl (by kernel_rfl) (fun _ _ _ h => h) hS (Or.inl ⟨by rfl, ?hy194⟩) ?rest194
      case hy194 => (intro w' hw; obtain ⟨_, q1, q2⟩ := hw; have u0 := q1.cell; have u1 := q2.cell; go_simp; try with_reducible rfl)
      replace hS := SG.set (i := 2) (by decide) (by decide) hS
      try simp only [pL]
      refine wpG_t1 (i := 3) (v := ?v195) rfl (by kernel_rfl) (fun _ _ _ h => h) hS (Or.inl ⟨by rfl, ?hy195⟩) ?rest195
      case hy195 => (intro w' hw; obtain ⟨_, q1, q2⟩ := hw; have u0 := q1.cell; have u1 := q2.cell; go_simp; try with_reducible rfl)
      replace hS := SG.set (i := 3) (by decide) (by decide) hS
      try simp only [pL]
      refine wpG_t1 (i := 4) (v := ?v196) rfl (by kernel_rfl) (fun _ _ _ h => h) hS (Or.inl ⟨by rfl, ?hy196⟩) ?rest196
      case hy196 => (intro w' hw; obtain ⟨_, q1, q2⟩ := hw; have u0 := q1.cell; have u1 := q2.cell; go_simp; try with_reducible rfl)
      replace hS := SG.set (i := 4) (by decide) (by decide) hS
      try simp only [pL]
      refine wpG_t1 (i := 5) (v := ?v197) rfl (by kernel_rfl) (fun _ _ _ h => h) hS (Or.inl ⟨by rfl, ?hy197⟩) ?rest197
      case hy197 => (intro w' hw; obtain ⟨_, q1, q2⟩ := hw; have u0 := q1.cell; have u1 := q2.cell; go_simp; try with_reducible rfl)
      replace hS := SG.set (i := 5) (by decide) (by decide) hS
      try simp only [pL]
      refine wpG_t1 (i := 6) (v := ?v198) rfl (by kernel_rfl) (fun _ _ _ h => h) hS (Or.inl ⟨by rfl, ?hy198⟩) ?rest198
      case hy198 => (intro w' hw; obtain ⟨_, q1, q2⟩ := hw; have u0 := q1.cell; have u1 := q2.cell; go_simp; try with_reducible rfl)
      replace hS := SG.set (i := 6) (by decide) (by decide) hS
      try simp only [pL]
      clear hS
      have H2 := Lib.hid (H1.out.alloc (.cells #[.int .i64 n.at_, .int .i64 (-1), .bool wr, .int .i64 0] 207))
      have G2 := Lib.hid (G1.out.trans (Gx.alloc _ WD (.cells #[.int .i64 n.at_, .int .i64 (-1), .bool wr, .int .i64 0] 207)))
      have RN := Lib.hid (RowB.new WD 207 #[.int .i64 n.at_, .int .i64 (-1), .bool wr, .int .i64 0])
      have HR2 := Lib.hid (HR.out.alloc (.cells #[.int .i64 n.at_, .int .i64 (-1), .bool wr, .int .i64 0] 207))
      refine wpG_ready (rs := [7]) (by kernel_rfl) (by simp) ?_
      refine RG.cons rfl rfl (fun K' hK => ?_) RG.nil
      go_simp
      refine hK.out _ _ ⟨trivial, fun _ => ⟨H2.out.row, HR2.out⟩, fun _ => trivial⟩ (fun hS => ?_)
      clear hK K'
      try simp only [pL]
      clear hS
      obtain ⟨W2, hW2⟩ : ∃ W2, W2 = WD.alloc (.cells #[.int .i64 n.at_, .int .i64 (-1), .bool wr, .int .i64 0] 207) := ⟨_, rfl⟩
      rw [← hW2] at H2 G2 RN HR2 ⊢
      obtain ⟨v', W3, hr, ho, hg, hl⟩ := app_at (w := W2) (t := 47) (e := 207) (size := 4) (bytes := 32) (z := .agg #[.int .i64 0, .int .i64 0, .bool false, .int .i64 0]) Tryz.underlying47 (by kernel_rfl) rfl (by decide) (by decide) B v2 _ _ H2.out.o2 _ _ RN.out rfl (by intro u hu; simp at hu; rcases hu with rfl | rfl | rfl | rfl <;> rfl) (by have := H2.out.sum; omega) (by have := (H2.out.lt _ H2.out.kb); simp only at this; omega) 47
      have r3 : RowB W3 b 189 (wcc v1 v2 v3 v4 mb hv s0.lam s0.item) := (hg.block _ H2.out.row.lt (fun e => own_ne_row H2.out.o2 H2.out.row (by decide) e.symm)).trans H2.out.row
      have b3 : RowB W3 ub 207 #[.int .i64 n.at_, .int .i64 (-1), .bool wr, .int .i64 0] := (hg.block _ HR2.out.lt (fun e => HUB1.out (H2.out.k2 _ e.symm))).trans HR2.out
      have FIN := Lib.hid (H2.out.app2 (x := ⟨n.at_, -1, wr, 0⟩) ho hg hl)
      obtain ⟨A', c', rfl, _⟩ := own_shape ho
      have R3 := Lib.hid r3
      have B3 := Lib.hid b3
      clear ho hg hl r3 b3 hW2 H2 HR2 RN
      refine wpG_ready (rs := [8]) (by kernel_rfl) (by simp) ?_
      refine RG.cons rfl rfl (fun K' hK => ?_) RG.nil
      refine wp_append_run (.tmp 58) (.tmp 60) 47 (by rfl) (by rfl) (by rfl) hr ?_
      refine hK.out _ _ ⟨trivial, fun _ => ⟨R3.out, B3.out⟩, fun _ => trivial⟩ (fun hS => ?_)
      clear hK K'
      try simp only [pL]
      clear hr
      refine wpG_t0 (i := 9) (v := ?v199) rfl (by kernel_rfl) (fun _ _ _ h => h) hS (Or.inl ⟨by rfl, ?hy199⟩) ?rest199
      case hy199 => (intro w' hw; go_simp; try with_reducible rfl)
      replace hS := SG.set (i := 9) (by decide) (by decide) hS
      try simp only [pL]
      refine wpG_t0 (i := 10) (v := ?v200) rfl (by kernel_rfl) (fun _ _ _ h => h) hS (Or.inl ⟨by rfl, ?hy200⟩) ?rest200
      case hy200 => (intro w' hw; go_simp; try with_reducible rfl)
      replace hS := SG.set (i := 10) (by decide) (by decide) hS
      try simp only [pL]
      refine wpG_t0 (i := 11) (v := ?v201) rfl (by kernel_rfl) (fun _ _ _ h => h) hS (Or.inl ⟨by rfl, ?hy201⟩) ?rest201
      case hy201 => (intro w' hw; go_simp; try with_reducible rfl)
      replace hS := SG.set (i := 11) (by decide) (by decide) hS
      try simp only [pL]
      clear hS
      have yc := R3.out.cell
      have yt := R3.out.thaw
      refine wpG_ready (rs := [12]) (by kernel_rfl) (by simp) ?_
      refine RG.cons rfl rfl (fun K' hK => ?_) RG.nil
      go_simp
      refine hK.out _ _ ⟨trivial, fun h => absurd (h : true = false) (by decide), fun _ => trivial⟩ (fun hS => ?_)
      clear hK K'
      try simp only [pL]
      clear hS yc yt R3
      refine wpG_done (by kernel_rfl) ?_ _
      go_end0
      have FE := (FIN.out.1).mono (N' := N + 2) (by omega)
      rw [HTV.out] at FE
      rw [men_eq n.at_ n.word wr s s0 0 HMEN.out] at FE
      exact ⟨rfl, _, ⟨_, _, _, _, _, _, FE⟩, G2.out.trans FIN.out.2⟩
    · have HM2 : 0 ≤ tv ∧ tv < (s.bs.length : Int) := by omega
      obtain ⟨i, hi⟩ : ∃ i : Nat, tv = (i : Int) := ⟨tv.toNat, by omega⟩
      subst hi
      have hil : i < s.bs.length := by omega
      obtain ⟨x, hxi⟩ : ∃ x, s.bs[i]? = some x := ⟨s.bs[i], List.getElem?_eq_getElem hil⟩
      obtain ⟨wi, hwi⟩ : ∃ y, s.within[i]? = some y := ⟨s.within[i]'(by rw [OK.out.len]; exact hil), List.getElem?_eq_getElem (by rw [OK.out.len]; exact hil)⟩
      have HWI := Lib.hid (OK.out.win wi (List.mem_of_getElem? hwi))
      have HMX : Hid (men0 n.at_ n.word wr s = if isItem x = false then (s, s.lam - wi) else (if wr = true then s.wrong n.at_ 35 else s, 0)) := by
        unfold Hid men0
        rw [if_neg (by rw [← HTV.out]; exact h0), ← HTV.out, Int.toNat_natCast, hxi]
        simp only [List.getD, hwi, Option.getD_some]
      obtain ⟨g1, c1, hv1, hc1, hg1, hob1, hcell⟩ := row_get H1.out.o1 (fun _ => rfl) hxi rfl
      subst hv1
      obtain ⟨g4, c4, hv4, hc4, hg4, hob4, hcell4⟩ := row_get H1.out.o4 (fun _ => rfl) hwi rfl
      subst hv4
      have HXI := Lib.hid hxi
      have HC := Lib.hid hcell
      have HC4 := Lib.hid hcell4
      have hil' : (i : Int) < (s.bs.length : Int) := by omega
      have hil4 : (i : Int) < (s.within.length : Int) := by rw [OK.out.len]; omega
      have HG := Lib.hid hg1
      have HG4 := Lib.hid hg4
      have h0' : (((i : Int)) == -1) = false := by rw [beq_eq_false_iff_ne]; omega
      clear hxi hwi hcell hcell4 hob1 hob4 hg1 hg4 HM HM2
      have y1 := HU.out.cell
      go_wp2_with fail
      clear y1
      refine wp_region_G (S := SG (fun w' => RowB w' b 189 (wcc (.slice (some ⟨g1, 0, none⟩) s.bs.length c1) v2 v3 (.slice (some ⟨g4, 0, none⟩) s.within.length c4) mb hv s.lam s.item) ∧ RowB w' ub 207 #[.int .i64 n.at_, .int .i64 (i : Int), .bool wr, .int .i64 0] ∧ ∀ j u, (bdC x)[j]? = some u → w'.cell? ⟨g1, i * 4 + j, none⟩ = some u) 98 (fun _ => True) 99 (fun _ => True)) (by kernel_rfl) ⟨⟨H1.out.row, HU.out, HC.out⟩, fun _ => trivial, fun _ => trivial⟩ (fun hS => ?_)
      obtain ⟨WD, hWD⟩ : ∃ WD, WD = W1.drew := ⟨_, rfl⟩
      have H1 := Lib.hid (H1.out.drew)
      have G1 := Lib.hid (G1.out.trans (Gx.drew _ W1))
      have HU := Lib.hid (show RowB W1.drew _ _ _ from HU.out)
      have HR := Lib.hid (show RowB W1.drew _ _ _ from HR.out)
      have HC := Lib.hid (show ∀ j u, (bdC x)[j]? = some u → W1.drew.cell? ⟨g1, i * 4 + j, none⟩ = some u from HC.out)
      have HC4 := Lib.hid (show ∀ j u, (wiC wi)[j]? = some u → W1.drew.cell? ⟨g4, i * 1 + j, none⟩ = some u from HC4.out)
      have HG := Lib.hid (show g1 < W1.drew.heap.size from HG.out)
      have HG4 := Lib.hid (show g4 < W1.drew.heap.size from HG4.out)
      rw [← hWD] at hS H1 G1 HU HR HC HC4 HG HG4 ⊢
      clear hWD
      refine wpG_t0 (i := 0) (v := ?v202) rfl (by kernel_rfl) (fun _ _ _ h => h) hS (Or.inl ⟨by rfl, ?hy202⟩) ?rest202
      case hy202 => (intro w' hw; obtain ⟨q1, q2, q3⟩ := hw; have u0 := q1.cell; have u1 := q2.cell; have d0 : w'.cell? ⟨g1, i * 4, none⟩ = some (.int .i64 x.at_) := q3 0 _ rfl; have d1 : w'.cell? ⟨g1, i * 4 + 1, none⟩ = some (.int .i64 x.kind) := q3 1 _ rfl; have d2 : w'.cell? ⟨g1, i * 4 + 2, none⟩ = some (.string x.word) := q3 2 _ rfl; have d3 : w'.cell? ⟨g1, i * 4 + 3, none⟩ = some (.int .i64 x.item) := q3 3 _ rfl; go_simp; try with_reducible rfl)
      replace hS := SG.set (i := 0) (by decide) (by decide) hS
      try simp only [pL]
      refine wpG_t0 (i := 1) (v := ?v203) rfl (by kernel_rfl) (fun _ _ _ h => h) hS (Or.inl ⟨by rfl, ?hy203⟩) ?rest203
      case hy203 => (intro w' hw; obtain ⟨q1, q2, q3⟩ := hw; have u0 := q1.cell; have u1 := q2.cell; have d0 : w'.cell? ⟨g1, i * 4, none⟩ = some (.int .i64 x.at_) := q3 0 _ rfl; have d1 : w'.cell? ⟨g1, i * 4 + 1, none⟩ = some (.int .i64 x.kind) := q3 1 _ rfl; have d2 : w'.cell? ⟨g1, i * 4 + 2, none⟩ = some (.string x.word) := q3 2 _ rfl; have d3 : w'.cell? ⟨g1, i * 4 + 3, none⟩ = some (.int .i64 x.item) := q3 3 _ rfl; go_simp; try with_reducible rfl)
      replace hS := SG.set (i := 1) (by decide) (by decide) hS
      try simp only [pL]
      refine wpG_t0 (i := 2) (v := ?v204) rfl (by kernel_rfl) (fun _ _ _ h => h) hS (Or.inl ⟨by rfl, ?hy204⟩) ?rest204
      case hy204 => (intro w' hw; obtain ⟨q1, q2, q3⟩ := hw; have u0 := q1.cell; have u1 := q2.cell; have d0 : w'.cell? ⟨g1, i * 4, none⟩ = some (.int .i64 x.at_) := q3 0 _ rfl; have d1 : w'.cell? ⟨g1, i * 4 + 1, none⟩ = some (.int .i64 x.kind) := q3 1 _ rfl; have d2 : w'.cell? ⟨g1, i * 4 + 2, none⟩ = some (.string x.word) := q3 2 _ rfl; have d3 : w'.cell? ⟨g1, i * 4 + 3, none⟩ = some (.int .i64 x.item) := q3 3 _ rfl; go_simp; try with_reducible rfl)
      replace hS := SG.set (i := 2) (by decide) (by decide) hS
      try simp only [pL]
      refine wpG_t0 (i := 3) (v := ?v205) rfl (by kernel_rfl) (fun _ _ _ h => h) hS (Or.inl ⟨by rfl, ?hy205⟩) ?rest205
      case hy205 => (intro w' hw; obtain ⟨q1, q2, q3⟩ := hw; have u0 := q1.cell; have u1 := q2.cell; have d0 : w'.cell? ⟨g1, i * 4, none⟩ = some (.int .i64 x.at_) := q3 0 _ rfl; have d1 : w'.cell? ⟨g1, i * 4 + 1, none⟩ = some (.int .i64 x.kind) := q3 1 _ rfl; have d2 : w'.cell? ⟨g1, i * 4 + 2, none⟩ = some (.string x.word) := q3 2 _ rfl; have d3 : w'.cell? ⟨g1, i * 4 + 3, none⟩ = some (.int .i64 x.item) := q3 3 _ rfl; go_simp; try with_reducible rfl)
      replace hS := SG.set (i := 3) (by decide) (by decide) hS
      try simp only [pL]
      refine wpG_t0 (i := 4) (v := ?v206) rfl (by kernel_rfl) (fun _ _ _ h => h) hS (Or.inl ⟨by rfl, ?hy206⟩) ?rest206
      case hy206 => (intro w' hw; obtain ⟨q1, q2, q3⟩ := hw; have u0 := q1.cell; have u1 := q2.cell; have d0 : w'.cell? ⟨g1, i * 4, none⟩ = some (.int .i64 x.at_) := q3 0 _ rfl; have d1 : w'.cell? ⟨g1, i * 4 + 1, none⟩ = some (.int .i64 x.kind) := q3 1 _ rfl; have d2 : w'.cell? ⟨g1, i * 4 + 2, none⟩ = some (.string x.word) := q3 2 _ rfl; have d3 : w'.cell? ⟨g1, i * 4 + 3, none⟩ = some (.int .i64 x.item) := q3 3 _ rfl; go_simp; try with_reducible rfl)
      replace hS := SG.set (i := 4) (by decide) (by decide) hS
      try simp only [pL]
      refine wpG_t0 (i := 5) (v := ?v207) rfl (by kernel_rfl) (fun _ _ _ h => h) hS (Or.inl ⟨by rfl, ?hy207⟩) ?rest207
      case hy207 => (intro w' hw; obtain ⟨q1, q2, q3⟩ := hw; have u0 := q1.cell; have u1 := q2.cell; have d0 : w'.cell? ⟨g1, i * 4, none⟩ = some (.int .i64 x.at_) := q3 0 _ rfl; have d1 : w'.cell? ⟨g1, i * 4 + 1, none⟩ = some (.int .i64 x.kind) := q3 1 _ rfl; have d2 : w'.cell? ⟨g1, i * 4 + 2, none⟩ = some (.string x.word) := q3 2 _ rfl; have d3 : w'.cell? ⟨g1, i * 4 + 3, none⟩ = some (.int .i64 x.item) := q3 3 _ rfl; go_simp; try with_reducible rfl)
      replace hS := SG.set (i := 5) (by decide) (by decide) hS
      try simp only [pL]
      refine wpG_t0 (i := 6) (v := ?v208) rfl (by kernel_rfl) (fun _ _ _ h => h) hS (Or.inl ⟨by rfl, ?hy208⟩) ?rest208
      case hy208 => (intro w' hw; obtain ⟨q1, q2, q3⟩ := hw; have u0 := q1.cell; have u1 := q2.cell; have d0 : w'.cell? ⟨g1, i * 4, none⟩ = some (.int .i64 x.at_) := q3 0 _ rfl; have d1 : w'.cell? ⟨g1, i * 4 + 1, none⟩ = some (.int .i64 x.kind) := q3 1 _ rfl; have d2 : w'.cell? ⟨g1, i * 4 + 2, none⟩ = some (.string x.word) := q3 2 _ rfl; have d3 : w'.cell? ⟨g1, i * 4 + 3, none⟩ = some (.int .i64 x.item) := q3 3 _ rfl; go_simp; try with_reducible rfl)
      replace hS := SG.set (i := 6) (by decide) (by decide) hS
      try simp only [pL]
      refine wpG_t0 (i := 7) (v := ?v209) rfl (by kernel_rfl) (fun _ _ _ h => h) hS (Or.inl ⟨by rfl, ?hy209⟩) ?rest209
      case hy209 => (intro w' hw; obtain ⟨q1, q2, q3⟩ := hw; have u0 := q1.cell; have u1 := q2.cell; have d0 : w'.cell? ⟨g1, i * 4, none⟩ = some (.int .i64 x.at_) := q3 0 _ rfl; have d1 : w'.cell? ⟨g1, i * 4 + 1, none⟩ = some (.int .i64 x.kind) := q3 1 _ rfl; have d2 : w'.cell? ⟨g1, i * 4 + 2, none⟩ = some (.string x.word) := q3 2 _ rfl; have d3 : w'.cell? ⟨g1, i * 4 + 3, none⟩ = some (.int .i64 x.item) := q3 3 _ rfl; go_simp; try with_reducible rfl)
      replace hS := SG.set (i := 7) (by decide) (by decide) hS
      try simp only [pL]
      refine wpG_t0 (i := 8) (v := ?v210) rfl (by kernel_rfl) (fun _ _ _ h => h) hS (Or.inl ⟨by rfl, ?hy210⟩) ?rest210
      case hy210 => (intro w' hw; obtain ⟨q1, q2, q3⟩ := hw; have u0 := q1.cell; have u1 := q2.cell; have d0 : w'.cell? ⟨g1, i * 4, none⟩ = some (.int .i64 x.at_) := q3 0 _ rfl; have d1 : w'.cell? ⟨g1, i * 4 + 1, none⟩ = some (.int .i64 x.kind) := q3 1 _ rfl; have d2 : w'.cell? ⟨g1, i * 4 + 2, none⟩ = some (.string x.word) := q3 2 _ rfl; have d3 : w'.cell? ⟨g1, i * 4 + 3, none⟩ = some (.int .i64 x.item) := q3 3 _ rfl; go_simp; try with_reducible rfl)
      replace hS := SG.set (i := 8) (by decide) (by decide) hS
      try simp only [pL]
      clear hS
      refine wpG_ready (rs := [9]) (by kernel_rfl) (by simp) ?_
      refine RG.cons rfl rfl (fun K' hK => ?_) RG.nil
      go_simp
      refine (isItem_any x WD).mono ?_
      rintro e W2 ⟨rfl, hb2⟩
      have H1 := Lib.hid (H1.out.below hb2)
      have G1 := Lib.hid (G1.out.trans (Gx.of hb2))
      have HU := Lib.hid (HU.out.below hb2 HU.out.lt)
      have HR := Lib.hid (HR.out.below hb2 HR.out.lt)
      have HC : Hid (∀ j u, (bdC x)[j]? = some u → W2.cell? ⟨g1, i * 4 + j, none⟩ = some u) := fun j u hj => (hb2.cell (p := ⟨g1, i * 4 + j, none⟩) HG.out).trans (HC.out j u hj)
      have HC4 : Hid (∀ j u, (wiC wi)[j]? = some u → W2.cell? ⟨g4, i * 1 + j, none⟩ = some u) := fun j u hj => (hb2.cell (p := ⟨g4, i * 1 + j, none⟩) HG4.out).trans (HC4.out j u hj)
      clear hb2
      go_wp2_with fail
      refine hK.out _ _ ⟨⟨H1.out.row, HU.out, HC.out⟩, fun _ => trivial, fun _ => trivial⟩ (fun hS => ?_)
      clear hK K'
      try simp only [pL]
      refine wpG_t0 (i := 10) (v := ?v211) rfl (by kernel_rfl) (fun _ _ _ h => h) hS (Or.inl ⟨by rfl, ?hy211⟩) ?rest211
      case hy211 => (intro w' hw; go_simp; try with_reducible rfl)
      replace hS := SG.set (i := 10) (by decide) (by decide) hS
      try simp only [pL]
      refine wpG_t0 (i := 11) (v := ?v212) rfl (by kernel_rfl) (fun _ _ _ h => h) hS (Or.inl ⟨by rfl, ?hy212⟩) ?rest212
      case hy212 => (intro w' hw; go_simp; try with_reducible rfl)
      replace hS := SG.set (i := 11) (by decide) (by decide) hS
      try simp only [pL]
      clear hS
      refine wpG_done (by kernel_rfl) ?_ _
      have HUS1 : Hid (ub < W2.heap.size) := HU.out.lt
      obtain ⟨W1, hW1⟩ : ∃ W1, W1 = W2 := ⟨_, rfl⟩
      rw [← hW1] at H1 G1 HU HR HC HC4 HUS1 ⊢
      clear hW1
      cases hq : isItem x with
      | false =>
        rw [hq, if_pos rfl] at HMX
        clear hq
        obtain ⟨far, hfar⟩ : ∃ far, far = s.lam - wi := ⟨_, rfl⟩
        have hwr : IntKind.i64.wrap (s.lam - wi) = far := by have h1 := HWI.out; have h2 := HL.out; rw [IntKind.wrap_i64]; omega
        have HMEN : Hid ((s, far) = men0 n.at_ n.word wr s) := by rw [hfar]; exact HMX.out.symm
        clear hfar
        simp only [Bool.not_false]
        go_wp2_with fail
        refine wp_region_G (S := SG (fun _ => True) 14 (fun w' => RowB w' b 189 (wcc (.slice (some ⟨g1, 0, none⟩) s.bs.length c1) v2 v3 (.slice (some ⟨g4, 0, none⟩) s.within.length c4) mb hv s.lam s.item) ∧ RowB w' ub 207 #[.int .i64 n.at_, .int .i64 (i : Int), .bool wr, .int .i64 0] ∧ ∀ j u, (wiC wi)[j]? = some u → w'.cell? ⟨g4, i * 1 + j, none⟩ = some u) 99 (fun _ => True)) (by kernel_rfl) ⟨trivial, fun _ => ⟨H1.out.row, HU.out, HC4.out⟩, fun _ => trivial⟩ (fun hS => ?_)
        obtain ⟨WD, hWD⟩ : ∃ WD, WD = W1.drew := ⟨_, rfl⟩
        have H1 := Lib.hid (H1.out.drew)
        have G1 := Lib.hid (G1.out.trans (Gx.drew _ W1))
        have HU := Lib.hid (show RowB W1.drew _ _ _ from HU.out)
        rw [← hWD] at hS H1 G1 HU ⊢
        clear hWD HC HC4
        refine wpG_t1 (i := 0) (v := ?v213) rfl (by kernel_rfl) (fun _ _ _ h => h) hS (Or.inl ⟨by rfl, ?hy213⟩) ?rest213
        case hy213 => (intro w' hw; obtain ⟨_, q1, q2, q3⟩ := hw; have u0 := q1.cell; have u1 := q2.cell; have d0 : w'.cell? ⟨g4, i, none⟩ = some (.int .i64 wi) := (by simpa using q3 0 _ rfl); go_simp; try with_reducible rfl)
        replace hS := SG.set (i := 0) (by decide) (by decide) hS
        try simp only [pL]
        refine wpG_t1 (i := 1) (v := ?v214) rfl (by kernel_rfl) (fun _ _ _ h => h) hS (Or.inl ⟨by rfl, ?hy214⟩) ?rest214
        case hy214 => (intro w' hw; obtain ⟨_, q1, q2, q3⟩ := hw; have u0 := q1.cell; have u1 := q2.cell; have d0 : w'.cell? ⟨g4, i, none⟩ = some (.int .i64 wi) := (by simpa using q3 0 _ rfl); go_simp; try with_reducible rfl)
        replace hS := SG.set (i := 1) (by decide) (by decide) hS
        try simp only [pL]
        refine wpG_t1 (i := 2) (v := ?v215) rfl (by kernel_rfl) (fun _ _ _ h => h) hS (Or.inl ⟨by rfl, ?hy215⟩) ?rest215
        case hy215 => (intro w' hw; obtain ⟨_, q1, q2, q3⟩ := hw; have u0 := q1.cell; have u1 := q2.cell; have d0 : w'.cell? ⟨g4, i, none⟩ = some (.int .i64 wi) := (by simpa using q3 0 _ rfl); go_simp; try with_reducible rfl)
        replace hS := SG.set (i := 2) (by decide) (by decide) hS
        try simp only [pL]
        refine wpG_t1 (i := 3) (v := ?v216) rfl (by kernel_rfl) (fun _ _ _ h => h) hS (Or.inl ⟨by rfl, ?hy216⟩) ?rest216
        case hy216 => (intro w' hw; obtain ⟨_, q1, q2, q3⟩ := hw; have u0 := q1.cell; have u1 := q2.cell; have d0 : w'.cell? ⟨g4, i, none⟩ = some (.int .i64 wi) := (by simpa using q3 0 _ rfl); go_simp; try with_reducible rfl)
        replace hS := SG.set (i := 3) (by decide) (by decide) hS
        try simp only [pL]
        refine wpG_t1 (i := 4) (v := ?v217) rfl (by kernel_rfl) (fun _ _ _ h => h) hS (Or.inl ⟨by rfl, ?hy217⟩) ?rest217
        case hy217 => (intro w' hw; obtain ⟨_, q1, q2, q3⟩ := hw; have u0 := q1.cell; have u1 := q2.cell; have d0 : w'.cell? ⟨g4, i, none⟩ = some (.int .i64 wi) := (by simpa using q3 0 _ rfl); go_simp; try with_reducible rfl)
        replace hS := SG.set (i := 4) (by decide) (by decide) hS
        try simp only [pL]
        refine wpG_t1 (i := 5) (v := ?v218) rfl (by kernel_rfl) (fun _ _ _ h => h) hS (Or.inl ⟨by rfl, ?hy218⟩) ?rest218
        case hy218 => (intro w' hw; obtain ⟨_, q1, q2, q3⟩ := hw; have u0 := q1.cell; have u1 := q2.cell; have d0 : w'.cell? ⟨g4, i, none⟩ = some (.int .i64 wi) := (by simpa using q3 0 _ rfl); go_simp; try with_reducible rfl)
        replace hS := SG.set (i := 5) (by decide) (by decide) hS
        try simp only [pL]
        refine wpG_t1 (i := 6) (v := ?v219) rfl (by kernel_rfl) (fun _ _ _ h => h) hS (Or.inl ⟨by rfl, ?hy219⟩) ?rest219
        case hy219 => (intro w' hw; obtain ⟨_, q1, q2, q3⟩ := hw; have u0 := q1.cell; have u1 := q2.cell; have d0 : w'.cell? ⟨g4, i, none⟩ = some (.int .i64 wi) := (by simpa using q3 0 _ rfl); go_simp; try with_reducible rfl)
        replace hS := SG.set (i := 6) (by decide) (by decide) hS
        try simp only [pL]
        refine wpG_t1 (i := 7) (v := ?v220) rfl (by kernel_rfl) (fun _ _ _ h => h) hS (Or.inl ⟨by rfl, ?hy220⟩) ?rest220
        case hy220 => (intro w' hw; obtain ⟨_, q1, q2, q3⟩ := hw; have u0 := q1.cell; have u1 := q2.cell; have d0 : w'.cell? ⟨g4, i, none⟩ = some (.int .i64 wi) := (by simpa using q3 0 _ rfl); go_simp; try with_reducible rfl)
        replace hS := SG.set (i := 7) (by decide) (by decide) hS
        try simp only [pL]
        refine wpG_t1 (i := 8) (v := ?v221) rfl (by kernel_rfl) (fun _ _ _ h => h) hS (Or.inl ⟨by rfl, ?hy221⟩) ?rest221
        case hy221 => (intro w' hw; obtain ⟨_, q1, q2, q3⟩ := hw; have u0 := q1.cell; have u1 := q2.cell; have d0 : w'.cell? ⟨g4, i, none⟩ = some (.int .i64 wi) := (by simpa using q3 0 _ rfl); go_simp; try with_reducible rfl)
        replace hS := SG.set (i := 8) (by decide) (by decide) hS
        try simp only [pL]
        refine wpG_t1 (i := 9) (v := ?v222) rfl (by kernel_rfl) (fun _ _ _ h => h) hS (Or.inl ⟨by rfl, ?hy222⟩) ?rest222
        case hy222 => (intro w' hw; obtain ⟨_, q1, q2, q3⟩ := hw; have u0 := q1.cell; have u1 := q2.cell; have d0 : w'.cell? ⟨g4, i, none⟩ = some (.int .i64 wi) := (by simpa using q3 0 _ rfl); go_simp; try with_reducible rfl)
        replace hS := SG.set (i := 9) (by decide) (by decide) hS
        try simp only [pL]
        refine wpG_t1 (i := 10) (v := ?v223) rfl (by kernel_rfl) (fun _ _ _ h => h) hS (Or.inl ⟨by rfl, ?hy223⟩) ?rest223
        case hy223 => (intro w' hw; obtain ⟨_, q1, q2, q3⟩ := hw; have u0 := q1.cell; have u1 := q2.cell; have d0 : w'.cell? ⟨g4, i, none⟩ = some (.int .i64 wi) := (by simpa using q3 0 _ rfl); go_simp; try with_reducible rfl)
        replace hS := SG.set (i := 10) (by decide) (by decide) hS
        try simp only [pL]
        refine wpG_t1 (i := 11) (v := ?v224) rfl (by kernel_rfl) (fun _ _ _ h => h) hS (Or.inl ⟨by rfl, ?hy224⟩) ?rest224
        case hy224 => (intro w' hw; obtain ⟨_, q1, q2, q3⟩ := hw; have u0 := q1.cell; have u1 := q2.cell; have d0 : w'.cell? ⟨g4, i, none⟩ = some (.int .i64 wi) := (by simpa using q3 0 _ rfl); go_simp; try with_reducible rfl)
        replace hS := SG.set (i := 11) (by decide) (by decide) hS
        try simp only [pL]
        refine wpG_t1 (i := 12) (v := ?v225) rfl (by kernel_rfl) (fun _ _ _ h => h) hS (Or.inl ⟨by rfl, ?hy225⟩) ?rest225
        case hy225 => (intro w' hw; obtain ⟨_, q1, q2, q3⟩ := hw; have u0 := q1.cell; have u1 := q2.cell; have d0 : w'.cell? ⟨g4, i, none⟩ = some (.int .i64 wi) := (by simpa using q3 0 _ rfl); go_simp; try with_reducible rfl)
        replace hS := SG.set (i := 12) (by decide) (by decide) hS
        try simp only [pL]
        refine wpG_t1 (i := 13) (v := ?v226) rfl (by kernel_rfl) (fun _ _ _ h => h) hS (Or.inl ⟨by rfl, ?hy226⟩) ?rest226
        case hy226 => (intro w' hw; obtain ⟨_, q1, q2, q3⟩ := hw; have u0 := q1.cell; have u1 := q2.cell; have d0 : w'.cell? ⟨g4, i, none⟩ = some (.int .i64 wi) := (by simpa using q3 0 _ rfl); go_simp; try with_reducible rfl)
        replace hS := SG.set (i := 13) (by decide) (by decide) hS
        try simp only [pL]
        clear hS
        have yc := HU.out.cell
        have yt := HU.out.thaw
        refine wpG_ready (rs := [14]) (by kernel_rfl) (by simp) ?_
        refine RG.cons rfl rfl (fun K' hK => ?_) RG.nil
        go_simp
        refine hK.out _ _ ⟨trivial, fun h => absurd (h : true = false) (by decide), fun _ => trivial⟩ (fun hS => ?_)
        clear hK K'
        try simp only [pL]
        clear hS yc yt
        refine wpG_done (by kernel_rfl) ?_ _
        obtain ⟨W1, hW1⟩ : ∃ W1, W1 = WD.setCell ⟨ub, 3, none⟩ (.int .i64 far) := ⟨_, rfl⟩
        have HU : Hid (RowB W1 ub 207 #[.int .i64 n.at_, .int .i64 (i : Int), .bool wr, .int .i64 far]) := by rw [hW1]; exact HU.out.put 3 (.int .i64 far)
        have H1 := Lib.hid (H1.out.set (p := ⟨ub, 3, none⟩) HUB.out (.int .i64 far))
        have G1 := Lib.hid (G1.out.far (p := ⟨ub, 3, none⟩) HUL.out.2 (.int .i64 far))
        rw [← hW1] at H1 G1 ⊢
        clear hW1 hwr
        obtain ⟨v1, hv1⟩ : ∃ v, v = Value.slice (some ⟨g1, 0, none⟩) s.bs.length c1 := ⟨_, rfl⟩
        obtain ⟨v4, hv4⟩ : ∃ v, v = Value.slice (some ⟨g4, 0, none⟩) s.within.length c4 := ⟨_, rfl⟩
        rw [← hv1, ← hv4] at H1
        clear hv1 hv4
        have HUB1 := HUB
        go_wp2_with fail
        have HR := HU
        refine wp_region_G (S := SG (fun _ => True) 12 (fun w' => RowB w' b 189 (wcc v1 v2 v3 v4 mb hv s.lam s.item) ∧ RowB w' ub 207 #[.int .i64 n.at_, .int .i64 (i : Int), .bool wr, .int .i64 far]) 99 (fun _ => True)) (by kernel_rfl) ⟨trivial, fun _ => ⟨H1.out.row, HR.out⟩, fun _ => trivial⟩ (fun hS => ?_)
        obtain ⟨WD, hWD⟩ : ∃ WD, WD = W1.drew := ⟨_, rfl⟩
        have H1 := Lib.hid (H1.out.drew)
        have G1 := Lib.hid (G1.out.trans (Gx.drew _ W1))
        replace HR := Lib.hid (show RowB W1.drew _ _ _ from HR.out)
        rw [← hWD] at hS H1 G1 HR ⊢
        clear hWD
        refine wpG_t1 (i := 0) (v := ?v227) rfl (by kernel_rfl) (fun _ _ _ h => h) hS (Or.inl ⟨by rfl, ?hy227⟩) ?rest227
        case hy227 => (intro w' hw; obtain ⟨_, q1, q2⟩ := hw; have u0 := q1.cell; have u1 := q2.cell; go_simp; try with_reducible rfl)
        replace hS := SG.set (i := 0) (by decide) (by decide) hS
        try simp only [pL]
        refine wpG_t1 (i := 1) (v := ?v228) rfl (by kernel_rfl) (fun _ _ _ h => h) hS (Or.inl ⟨by rfl, ?hy228⟩) ?rest228
        case hy228 => (intro w' hw; obtain ⟨_, q1, q2⟩ := hw; have u0 := q1.cell; have u1 := q2.cell; go_simp; try with_reducible rfl)
        replace hS := SG.set (i := 1) (by decide) (by decide) hS
        try simp only [pL]
        refine wpG_t1 (i := 2) (v := ?v229) rfl (by kernel_rfl) (fun _ _ _ h => h) hS (Or.inl ⟨by rfl, ?hy229⟩) ?rest229
        case hy229 => (intro w' hw; obtain ⟨_, q1, q2⟩ := hw; have u0 := q1.cell; have u1 := q2.cell; go_simp; try with_reducible rfl)
        replace hS := SG.set (i := 2) (by decide) (by decide) hS
        try simp only [pL]
        refine wpG_t1 (i := 3) (v := ?v230) rfl (by kernel_rfl) (fun _ _ _ h => h) hS (Or.inl ⟨by rfl, ?hy230⟩) ?rest230
        case hy230 => (intro w' hw; obtain ⟨_, q1, q2⟩ := hw; have u0 := q1.cell; have u1 := q2.cell; go_simp; try with_reducible rfl)
        replace hS := SG.set (i := 3) (by decide) (by decide) hS
        try simp only [pL]
        refine wpG_t1 (i := 4) (v := ?v231) rfl (by kernel_rfl) (fun _ _ _ h => h) hS (Or.inl ⟨by rfl, ?hy231⟩) ?rest231
        case hy231 => (intro w' hw; obtain ⟨_, q1, q2⟩ := hw; have u0 := q1.cell; have u1 := q2.cell; go_simp; try with_reducible rfl)
        replace hS := SG.set (i := 4) (by decide) (by decide) hS
        try simp only [pL]
        refine wpG_t1 (i := 5) (v := ?v232) rfl (by kernel_rfl) (fun _ _ _ h => h) hS (Or.inl ⟨by rfl, ?hy232⟩) ?rest232
        case hy232 => (intro w' hw; obtain ⟨_, q1, q2⟩ := hw; have u0 := q1.cell; have u1 := q2.cell; go_simp; try with_reducible rfl)
        replace hS := SG.set (i := 5) (by decide) (by decide) hS
        try simp only [pL]
        refine wpG_t1 (i := 6) (v := ?v233) rfl (by kernel_rfl) (fun _ _ _ h => h) hS (Or.inl ⟨by rfl, ?hy233⟩) ?rest233
        case hy233 => (intro w' hw; obtain ⟨_, q1, q2⟩ := hw; have u0 := q1.cell; have u1 := q2.cell; go_simp; try with_reducible rfl)
        replace hS := SG.set (i := 6) (by decide) (by decide) hS
        try simp only [pL]
        clear hS
        have H2 := Lib.hid (H1.out.alloc (.cells #[.int .i64 n.at_, .int .i64 (i : Int), .bool wr, .int .i64 far] 207))
        have G2 := Lib.hid (G1.out.trans (Gx.alloc _ WD (.cells #[.int .i64 n.at_, .int .i64 (i : Int), .bool wr, .int .i64 far] 207)))
        have RN := Lib.hid (RowB.new WD 207 #[.int .i64 n.at_, .int .i64 (i : Int), .bool wr, .int .i64 far])
        have HR2 := Lib.hid (HR.out.alloc (.cells #[.int .i64 n.at_, .int .i64 (i : Int), .bool wr, .int .i64 far] 207))
        refine wpG_ready (rs := [7]) (by kernel_rfl) (by simp) ?_
        refine RG.cons rfl rfl (fun K' hK => ?_) RG.nil
        go_simp
        refine hK.out _ _ ⟨trivial, fun _ => ⟨H2.out.row, HR2.out⟩, fun _ => trivial⟩ (fun hS => ?_)
        clear hK K'
        try simp only [pL]
        clear hS
        obtain ⟨W2, hW2⟩ : ∃ W2, W2 = WD.alloc (.cells #[.int .i64 n.at_, .int .i64 (i : Int), .bool wr, .int .i64 far] 207) := ⟨_, rfl⟩
        rw [← hW2] at H2 G2 RN HR2 ⊢
        obtain ⟨v', W3, hr, ho, hg, hl⟩ := app_at (w := W2) (t := 47) (e := 207) (size := 4) (bytes := 32) (z := .agg #[.int .i64 0, .int .i64 0, .bool false, .int .i64 0]) Tryz.underlying47 (by kernel_rfl) rfl (by decide) (by decide) B v2 _ _ H2.out.o2 _ _ RN.out rfl (by intro u hu; simp at hu; rcases hu with rfl | rfl | rfl | rfl <;> rfl) (by have := H2.out.sum; omega) (by have := (H2.out.lt _ H2.out.kb); simp only at this; omega) 47
        have r3 : RowB W3 b 189 (wcc v1 v2 v3 v4 mb hv s.lam s.item) := (hg.block _ H2.out.row.lt (fun e => own_ne_row H2.out.o2 H2.out.row (by decide) e.symm)).trans H2.out.row
        have b3 : RowB W3 ub 207 #[.int .i64 n.at_, .int .i64 (i : Int), .bool wr, .int .i64 far] := (hg.block _ HR2.out.lt (fun e => HUB1.out (H2.out.k2 _ e.symm))).trans HR2.out
        have FIN := Lib.hid (H2.out.app2 (x := ⟨n.at_, (i : Int), wr, far⟩) ho hg hl)
        obtain ⟨A', c', rfl, _⟩ := own_shape ho
        have R3 := Lib.hid r3
        have B3 := Lib.hid b3
        clear ho hg hl r3 b3 hW2 H2 HR2 RN
        refine wpG_ready (rs := [8]) (by kernel_rfl) (by simp) ?_
        refine RG.cons rfl rfl (fun K' hK => ?_) RG.nil
        refine wp_append_run (.tmp 58) (.tmp 60) 47 (by rfl) (by rfl) (by rfl) hr ?_
        refine hK.out _ _ ⟨trivial, fun _ => ⟨R3.out, B3.out⟩, fun _ => trivial⟩ (fun hS => ?_)
        clear hK K'
        try simp only [pL]
        clear hr
        refine wpG_t0 (i := 9) (v := ?v234) rfl (by kernel_rfl) (fun _ _ _ h => h) hS (Or.inl ⟨by rfl, ?hy234⟩) ?rest234
        case hy234 => (intro w' hw; go_simp; try with_reducible rfl)
        replace hS := SG.set (i := 9) (by decide) (by decide) hS
        try simp only [pL]
        refine wpG_t0 (i := 10) (v := ?v235) rfl (by kernel_rfl) (fun _ _ _ h => h) hS (Or.inl ⟨by rfl, ?hy235⟩) ?rest235
        case hy235 => (intro w' hw; go_simp; try with_reducible rfl)
        replace hS := SG.set (i := 10) (by decide) (by decide) hS
        try simp only [pL]
        refine wpG_t0 (i := 11) (v := ?v236) rfl (by kernel_rfl) (fun _ _ _ h => h) hS (Or.inl ⟨by rfl, ?hy236⟩) ?rest236
        case hy236 => (intro w' hw; go_simp; try with_reducible rfl)
        replace hS := SG.set (i := 11) (by decide) (by decide) hS
        try simp only [pL]
        clear hS
        have yc := R3.out.cell
        have yt := R3.out.thaw
        refine wpG_ready (rs := [12]) (by kernel_rfl) (by simp) ?_
        refine RG.cons rfl rfl (fun K' hK => ?_) RG.nil
        go_simp
        refine hK.out _ _ ⟨trivial, fun h => absurd (h : true = false) (by decide), fun _ => trivial⟩ (fun hS => ?_)
        clear hK K'
        try simp only [pL]
        clear hS yc yt R3
        refine wpG_done (by kernel_rfl) ?_ _
        go_end0
        have FE := (FIN.out.1).mono (N' := N + 2) (by omega)
        rw [HTV.out] at FE
        rw [men_eq n.at_ n.word wr s s far HMEN.out] at FE
        exact ⟨rfl, _, ⟨_, _, _, _, _, _, FE⟩, G2.out.trans FIN.out.2⟩
      | true =>
        rw [hq, if_neg (by simp)] at HMX
        clear hq
        simp only [Bool.not_true]
        obtain ⟨v1, hv1⟩ : ∃ v, v = Value.slice (some ⟨g1, 0, none⟩) s.bs.length c1 := ⟨_, rfl⟩
        obtain ⟨v4, hv4⟩ : ∃ v, v = Value.slice (some ⟨g4, 0, none⟩) s.within.length c4 := ⟨_, rfl⟩
        rw [← hv1, ← hv4] at H1
        clear hv1 hv4 HC HC4
        cases wr with
        | true =>
          have y0 := HR.out.cell
          have y1 := HU.out.cell
          go_wp2_with fail
          have CW := Lib.hid (wrong_any H1.out n A k c 35 (by omega))
          simp only [hvv] at CW
          refine CW.out.mono ?_
          rintro e W4 ⟨rfl, K1, ⟨v1, v2, v3, v4, m1, n1, h2⟩, g2⟩
          clear y0 y1
          have HU := Lib.hid (g2.row HU.out HUB.out)
          have HUB1 : Hid (¬ K1 ub) := fun hk => by
            rcases g2.own ub hk with h1 | h1
            · exact HUB.out h1
            · have := HUS1.out; omega
          have G1 := Lib.hid (G1.out.trans g2)
          have H1 := Lib.hid h2
          clear h2 g2 CW
          obtain ⟨s0, hs0⟩ : ∃ s0 : St, s0 = s.wrong n.at_ 35 := ⟨_, rfl⟩
          rw [← hs0] at H1
          have HMEN : Hid ((s0, (0 : Int)) = men0 n.at_ n.word true s) := by unfold Hid; rw [HMX.out, hs0]; simp
          clear hs0
          obtain ⟨W1, hW1⟩ : ∃ W1, W1 = W4 := ⟨_, rfl⟩
          rw [← hW1] at H1 G1 HU ⊢
          clear hW1
          go_wp2_with fail
          have HR := HU
          refine wp_region_G (S := SG (fun _ => True) 12 (fun w' => RowB w' b 189 (wcc v1 v2 v3 v4 mb hv s0.lam s0.item) ∧ RowB w' ub 207 #[.int .i64 n.at_, .int .i64 (i : Int), .bool true, .int .i64 0]) 99 (fun _ => True)) (by kernel_rfl) ⟨trivial, fun _ => ⟨H1.out.row, HR.out⟩, fun _ => trivial⟩ (fun hS => ?_)
          obtain ⟨WD, hWD⟩ : ∃ WD, WD = W1.drew := ⟨_, rfl⟩
          have H1 := Lib.hid (H1.out.drew)
          have G1 := Lib.hid (G1.out.trans (Gx.drew _ W1))
          replace HR := Lib.hid (show RowB W1.drew _ _ _ from HR.out)
          rw [← hWD] at hS H1 G1 HR ⊢
          clear hWD
          refine wpG_t1 (i := 0) (v := ?v237) rfl (by kernel_rfl) (fun _ _ _ h => h) hS (Or.inl ⟨by rfl, ?hy237⟩) ?rest237
          case hy237 => (intro w' hw; obtain ⟨_, q1, q2⟩ := hw; have u0 := q1.cell; have u1 := q2.cell; go_simp; try with_reducible rfl)
          replace hS := SG.set (i := 0) (by decide) (by decide) hS
          try simp only [pL]
          refine wpG_t1 (i := 1) (v := ?v238) rfl (by kernel_rfl) (fun _ _ _ h => h) hS (Or.inl ⟨by rfl, ?hy238⟩) ?rest238
          case hy238 => (intro w' hw; obtain ⟨_, q1, q2⟩ := hw; have u0 := q1.cell; have u1 := q2.cell; go_simp; try with_reducible rfl)
          replace hS := SG.set (i := 1) (by decide) (by decide) hS
          try simp only [pL]
          refine wpG_t1 (i := 2) (v := ?v239) rfl (by kernel_rfl) (fun _ _ _ h => h) hS (Or.inl ⟨by rfl, ?hy239⟩) ?rest239
          case hy239 => (intro w' hw; obtain ⟨_, q1, q2⟩ := hw; have u0 := q1.cell; have u1 := q2.cell; go_simp; try with_reducible rfl)
          replace hS := SG.set (i := 2) (by decide) (by decide) hS
          try simp only [pL]
          refine wpG_t1 (i := 3) (v := ?v240) rfl (by kernel_rfl) (fun _ _ _ h => h) hS (Or.inl ⟨by rfl, ?hy240⟩) ?rest240
          case hy240 => (intro w' hw; obtain ⟨_, q1, q2⟩ := hw; have u0 := q1.cell; have u1 := q2.cell; go_simp; try with_reducible rfl)
          replace hS := SG.set (i := 3) (by decide) (by decide) hS
          try simp only [pL]
          refine wpG_t1 (i := 4) (v := ?v241) rfl (by kernel_rfl) (fun _ _ _ h => h) hS (Or.inl ⟨by rfl, ?hy241⟩) ?rest241
          case hy241 => (intro w' hw; obtain ⟨_, q1, q2⟩ := hw; have u0 := q1.cell; have u1 := q2.cell; go_simp; try with_reducible rfl)
          replace hS := SG.set (i := 4) (by decide) (by decide) hS
          try simp only [pL]
          refine wpG_t1 (i := 5) (v := ?v242) rfl (by kernel_rfl) (fun _ _ _ h => h) hS (Or.inl ⟨by rfl, ?hy242⟩) ?rest242
          case hy242 => (intro w' hw; obtain ⟨_, q1, q2⟩ := hw; have u0 := q1.cell; have u1 := q2.cell; go_simp; try with_reducible rfl)
          replace hS := SG.set (i := 5) (by decide) (by decide) hS
          try simp only [pL]
          refine wpG_t1 (i := 6) (v := ?v243) rfl (by kernel_rfl) (fun _ _ _ h => h) hS (Or.inl ⟨by rfl, ?hy243⟩) ?rest243
          case hy243 => (intro w' hw; obtain ⟨_, q1, q2⟩ := hw; have u0 := q1.cell; have u1 := q2.cell; go_simp; try with_reducible rfl)
          replace hS := SG.set (i := 6) (by decide) (by decide) hS
          try simp only [pL]
          clear hS
          have H2 := Lib.hid (H1.out.alloc (.cells #[.int .i64 n.at_, .int .i64 (i : Int), .bool true, .int .i64 0] 207))
          have G2 := Lib.hid (G1.out.trans (Gx.alloc _ WD (.cells #[.int .i64 n.at_, .int .i64 (i : Int), .bool true, .int .i64 0] 207)))
          have RN := Lib.hid (RowB.new WD 207 #[.int .i64 n.at_, .int .i64 (i : Int), .bool true, .int .i64 0])
          have HR2 := Lib.hid (HR.out.alloc (.cells #[.int .i64 n.at_, .int .i64 (i : Int), .bool true, .int .i64 0] 207))
          refine wpG_ready (rs := [7]) (by kernel_rfl) (by simp) ?_
          refine RG.cons rfl rfl (fun K' hK => ?_) RG.nil
          go_simp
          refine hK.out _ _ ⟨trivial, fun _ => ⟨H2.out.row, HR2.out⟩, fun _ => trivial⟩ (fun hS => ?_)
          clear hK K'
          try simp only [pL]
          clear hS
          obtain ⟨W2, hW2⟩ : ∃ W2, W2 = WD.alloc (.cells #[.int .i64 n.at_, .int .i64 (i : Int), .bool true, .int .i64 0] 207) := ⟨_, rfl⟩
          rw [← hW2] at H2 G2 RN HR2 ⊢
          obtain ⟨v', W3, hr, ho, hg, hl⟩ := app_at (w := W2) (t := 47) (e := 207) (size := 4) (bytes := 32) (z := .agg #[.int .i64 0, .int .i64 0, .bool false, .int .i64 0]) Tryz.underlying47 (by kernel_rfl) rfl (by decide) (by decide) B v2 _ _ H2.out.o2 _ _ RN.out rfl (by intro u hu; simp at hu; rcases hu with rfl | rfl | rfl | rfl <;> rfl) (by have := H2.out.sum; omega) (by have := (H2.out.lt _ H2.out.kb); simp only at this; omega) 47
          have r3 : RowB W3 b 189 (wcc v1 v2 v3 v4 mb hv s0.lam s0.item) := (hg.block _ H2.out.row.lt (fun e => own_ne_row H2.out.o2 H2.out.row (by decide) e.symm)).trans H2.out.row
          have b3 : RowB W3 ub 207 #[.int .i64 n.at_, .int .i64 (i : Int), .bool true, .int .i64 0] := (hg.block _ HR2.out.lt (fun e => HUB1.out (H2.out.k2 _ e.symm))).trans HR2.out
          have FIN := Lib.hid (H2.out.app2 (x := ⟨n.at_, (i : Int), true, 0⟩) ho hg hl)
          obtain ⟨A', c', rfl, _⟩ := own_shape ho
          have R3 := Lib.hid r3
          have B3 := Lib.hid b3
          clear ho hg hl r3 b3 hW2 H2 HR2 RN
          refine wpG_ready (rs := [8]) (by kernel_rfl) (by simp) ?_
          refine RG.cons rfl rfl (fun K' hK => ?_) RG.nil
          refine wp_append_run (.tmp 58) (.tmp 60) 47 (by rfl) (by rfl) (by rfl) hr ?_
          refine hK.out _ _ ⟨trivial, fun _ => ⟨R3.out, B3.out⟩, fun _ => trivial⟩ (fun hS => ?_)
          clear hK K'
          try simp only [pL]
          clear hr
          refine wpG_t0 (i := 9) (v := ?v244) rfl (by kernel_rfl) (fun _ _ _ h => h) hS (Or.inl ⟨by rfl, ?hy244⟩) ?rest244
          case hy244 => (intro w' hw; go_simp; try with_reducible rfl)
          replace hS := SG.set (i := 9) (by decide) (by decide) hS
          try simp only [pL]
          refine wpG_t0 (i := 10) (v := ?v245) rfl (by kernel_rfl) (fun _ _ _ h => h) hS (Or.inl ⟨by rfl, ?hy245⟩) ?rest245
          case hy245 => (intro w' hw; go_simp; try with_reducible rfl)
          replace hS := SG.set (i := 10) (by decide) (by decide) hS
          try simp only [pL]
          refine wpG_t0 (i := 11) (v := ?v246) rfl (by kernel_rfl) (fun _ _ _ h => h) hS (Or.inl ⟨by rfl, ?hy246⟩) ?rest246
          case hy246 => (intro w' hw; go_simp; try with_reducible rfl)
          replace hS := SG.set (i := 11) (by decide) (by decide) hS
          try simp only [pL]
          clear hS
          have yc := R3.out.cell
          have yt := R3.out.thaw
          refine wpG_ready (rs := [12]) (by kernel_rfl) (by simp) ?_
          refine RG.cons rfl rfl (fun K' hK => ?_) RG.nil
          go_simp
          refine hK.out _ _ ⟨trivial, fun h => absurd (h : true = false) (by decide), fun _ => trivial⟩ (fun hS => ?_)
          clear hK K'
          try simp only [pL]
          clear hS yc yt R3
          refine wpG_done (by kernel_rfl) ?_ _
          go_end0
          have FE := (FIN.out.1).mono (N' := N + 2) (by omega)
          rw [HTV.out] at FE
          rw [men_eq n.at_ n.word true s s0 0 HMEN.out] at FE
          exact ⟨rfl, _, ⟨_, _, _, _, _, _, FE⟩, G2.out.trans FIN.out.2⟩
        | false =>
          have HMEN : Hid ((s, (0 : Int)) = men0 n.at_ n.word false s) := by unfold Hid; rw [HMX.out]; simp
          have HUB1 := HUB
          go_wp2_with fail
          have HR := HU
          refine wp_region_G (S := SG (fun _ => True) 12 (fun w' => RowB w' b 189 (wcc v1 v2 v3 v4 mb hv s.lam s.item) ∧ RowB w' ub 207 #[.int .i64 n.at_, .int .i64 (i : Int), .bool false, .int .i64 0]) 99 (fun _ => True)) (by kernel_rfl) ⟨trivial, fun _ => ⟨H1.out.row, HR.out⟩, fun _ => trivial⟩ (fun hS => ?_)
          obtain ⟨WD, hWD⟩ : ∃ WD, WD = W1.drew := ⟨_, rfl⟩
          have H1 := Lib.hid (H1.out.drew)
          have G1 := Lib.hid (G1.out.trans (Gx.drew _ W1))
          replace HR := Lib.hid (show RowB W1.drew _ _ _ from HR.out)
          rw [← hWD] at hS H1 G1 HR ⊢
          clear hWD
          refine wpG_t1 (i := 0) (v := ?v247) rfl (by kernel_rfl) (fun _ _ _ h => h) hS (Or.inl ⟨by rfl, ?hy247⟩) ?rest247
          case hy247 => (intro w' hw; obtain ⟨_, q1, q2⟩ := hw; have u0 := q1.cell; have u1 := q2.cell; go_simp; try with_reducible rfl)
          replace hS := SG.set (i := 0) (by decide) (by decide) hS
          try simp only [pL]
          refine wpG_t1 (i := 1) (v := ?v248) rfl (by kernel_rfl) (fun _ _ _ h => h) hS (Or.inl ⟨by rfl, ?hy248⟩) ?rest248
          case hy248 => (intro w' hw; obtain ⟨_, q1, q2⟩ := hw; have u0 := q1.cell; have u1 := q2.cell; go_simp; try with_reducible rfl)
          replace hS := SG.set (i := 1) (by decide) (by decide) hS
          try simp only [pL]
          refine wpG_t1 (i := 2) (v := ?v249) rfl (by kernel_rfl) (fun _ _ _ h => h) hS (Or.inl ⟨by rfl, ?hy249⟩) ?rest249
          case hy249 => (intro w' hw; obtain ⟨_, q1, q2⟩ := hw; have u0 := q1.cell; have u1 := q2.cell; go_simp; try with_reducible rfl)
          replace hS := SG.set (i := 2) (by decide) (by decide) hS
          try simp only [pL]
          refine wpG_t1 (i := 3) (v := ?v250) rfl (by kernel_rfl) (fun _ _ _ h => h) hS (Or.inl ⟨by rfl, ?hy250⟩) ?rest250
          case hy250 => (intro w' hw; obtain ⟨_, q1, q2⟩ := hw; have u0 := q1.cell; have u1 := q2.cell; go_simp; try with_reducible rfl)
          replace hS := SG.set (i := 3) (by decide) (by decide) hS
          try simp only [pL]
          refine wpG_t1 (i := 4) (v := ?v251) rfl (by kernel_rfl) (fun _ _ _ h => h) hS (Or.inl ⟨by rfl, ?hy251⟩) ?rest251
          case hy251 => (intro w' hw; obtain ⟨_, q1, q2⟩ := hw; have u0 := q1.cell; have u1 := q2.cell; go_simp; try with_reducible rfl)
          replace hS := SG.set (i := 4) (by decide) (by decide) hS
          try simp only [pL]
          refine wpG_t1 (i := 5) (v := ?v252) rfl (by kernel_rfl) (fun _ _ _ h => h) hS (Or.inl ⟨by rfl, ?hy252⟩) ?rest252
          case hy252 => (intro w' hw; obtain ⟨_, q1, q2⟩ := hw; have u0 := q1.cell; have u1 := q2.cell; go_simp; try with_reducible rfl)
          replace hS := SG.set (i := 5) (by decide) (by decide) hS
          try simp only [pL]
          refine wpG_t1 (i := 6) (v := ?v253) rfl (by kernel_rfl) (fun _ _ _ h => h) hS (Or.inl ⟨by rfl, ?hy253⟩) ?rest253
          case hy253 => (intro w' hw; obtain ⟨_, q1, q2⟩ := hw; have u0 := q1.cell; have u1 := q2.cell; go_simp; try with_reducible rfl)
          replace hS := SG.set (i := 6) (by decide) (by decide) hS
          try simp only [pL]
          clear hS
          have H2 := Lib.hid (H1.out.alloc (.cells #[.int .i64 n.at_, .int .i64 (i : Int), .bool false, .int .i64 0] 207))
          have G2 := Lib.hid (G1.out.trans (Gx.alloc _ WD (.cells #[.int .i64 n.at_, .int .i64 (i : Int), .bool false, .int .i64 0] 207)))
          have RN := Lib.hid (RowB.new WD 207 #[.int .i64 n.at_, .int .i64 (i : Int), .bool false, .int .i64 0])
          have HR2 := Lib.hid (HR.out.alloc (.cells #[.int .i64 n.at_, .int .i64 (i : Int), .bool false, .int .i64 0] 207))
          refine wpG_ready (rs := [7]) (by kernel_rfl) (by simp) ?_
          refine RG.cons rfl rfl (fun K' hK => ?_) RG.nil
          go_simp
          refine hK.out _ _ ⟨trivial, fun _ => ⟨H2.out.row, HR2.out⟩, fun _ => trivial⟩ (fun hS => ?_)
          clear hK K'
          try simp only [pL]
          clear hS
          obtain ⟨W2, hW2⟩ : ∃ W2, W2 = WD.alloc (.cells #[.int .i64 n.at_, .int .i64 (i : Int), .bool false, .int .i64 0] 207) := ⟨_, rfl⟩
          rw [← hW2] at H2 G2 RN HR2 ⊢
          obtain ⟨v', W3, hr, ho, hg, hl⟩ := app_at (w := W2) (t := 47) (e := 207) (size := 4) (bytes := 32) (z := .agg #[.int .i64 0, .int .i64 0, .bool false, .int .i64 0]) Tryz.underlying47 (by kernel_rfl) rfl (by decide) (by decide) B v2 _ _ H2.out.o2 _ _ RN.out rfl (by intro u hu; simp at hu; rcases hu with rfl | rfl | rfl | rfl <;> rfl) (by have := H2.out.sum; omega) (by have := (H2.out.lt _ H2.out.kb); simp only at this; omega) 47
          have r3 : RowB W3 b 189 (wcc v1 v2 v3 v4 mb hv s.lam s.item) := (hg.block _ H2.out.row.lt (fun e => own_ne_row H2.out.o2 H2.out.row (by decide) e.symm)).trans H2.out.row
          have b3 : RowB W3 ub 207 #[.int .i64 n.at_, .int .i64 (i : Int), .bool false, .int .i64 0] := (hg.block _ HR2.out.lt (fun e => HUB1.out (H2.out.k2 _ e.symm))).trans HR2.out
          have FIN := Lib.hid (H2.out.app2 (x := ⟨n.at_, (i : Int), false, 0⟩) ho hg hl)
          obtain ⟨A', c', rfl, _⟩ := own_shape ho
          have R3 := Lib.hid r3
          have B3 := Lib.hid b3
          clear ho hg hl r3 b3 hW2 H2 HR2 RN
          refine wpG_ready (rs := [8]) (by kernel_rfl) (by simp) ?_
          refine RG.cons rfl rfl (fun K' hK => ?_) RG.nil
          refine wp_append_run (.tmp 58) (.tmp 60) 47 (by rfl) (by rfl) (by rfl) hr ?_
          refine hK.out _ _ ⟨trivial, fun _ => ⟨R3.out, B3.out⟩, fun _ => trivial⟩ (fun hS => ?_)
          clear hK K'
          try simp only [pL]
          clear hr
          refine wpG_t0 (i := 9) (v := ?v254) rfl (by kernel_rfl) (fun _ _ _ h => h) hS (Or.inl ⟨by rfl, ?hy254⟩) ?rest254
          case hy254 => (intro w' hw; go_simp; try with_reducible rfl)
          replace hS := SG.set (i := 9) (by decide) (by decide) hS
          try simp only [pL]
          refine wpG_t0 (i := 10) (v := ?v255) rfl (by kernel_rfl) (fun _ _ _ h => h) hS (Or.inl ⟨by rfl, ?hy255⟩) ?rest255
          case hy255 => (intro w' hw; go_simp; try with_reducible rfl)
          replace hS := SG.set (i := 10) (by decide) (by decide) hS
          try simp only [pL]
          refine wpG_t0 (i := 11) (v := ?v256) rfl (by kernel_rfl) (fun _ _ _ h => h) hS (Or.inl ⟨by rfl, ?hy256⟩) ?rest256
          case hy256 => (intro w' hw; go_simp; try with_reducible rfl)
          replace hS := SG.set (i := 11) (by decide) (by decide) hS
          try simp only [pL]
          clear hS
          have yc := R3.out.cell
          have yt := R3.out.thaw
          refine wpG_ready (rs := [12]) (by kernel_rfl) (by simp) ?_
          refine RG.cons rfl rfl (fun K' hK => ?_) RG.nil
          go_simp
          refine hK.out _ _ ⟨trivial, fun h => absurd (h : true = false) (by decide), fun _ => trivial⟩ (fun hS => ?_)
          clear hK K'
          try simp only [pL]
          clear hS yc yt R3
          refine wpG_done (by kernel_rfl) ?_ _
          go_end0
          have FE := (FIN.out.1).mono (N' := N + 2) (by omega)
          rw [HTV.out] at FE
          rw [men_eq n.at_ n.word false s s 0 HMEN.out] at FE
          exact ⟨rfl, _, ⟨_, _, _, _, _, _, FE⟩, G2.out.trans FIN.out.2⟩
end Sc
end Go.Proofs.YthjflofcgdfekaaGreatDoor
