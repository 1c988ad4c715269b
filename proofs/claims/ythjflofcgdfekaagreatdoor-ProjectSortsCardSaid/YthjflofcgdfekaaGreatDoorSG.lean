import Derived.Test.YthjflofcgdfekaaGreatDoorMAE
namespace Go.Proofs.YthjflofcgdfekaaGreatDoor
open Go.RowKit Go.Op
namespace Sc
open Vm
set_option maxHeartbeats 16000000 in
set_option maxRecDepth 100000 in
theorem bind_any {X : Wc} {w : World} {K : Nat → Prop} {hb : Nat} {s : St} {N nm nh : Nat} {v1 v2 v3 v4 : Value} (h : WSr X w K (some hb) s N v1 v2 v3 v4 nm nh) (ok : Ok s) (n : Hi) (A : Option Addr) (k c : Nat) (kd : Int) (hN : N ≤ 100000000) (hx : n.word.size ≤ maxLen) :
    Calls Tryz.prog 139 #[X.p, hvv n A k c, .int .i64 kd] w (Ans X w K (some hb) (bind n.at_ n.word kd s) (N + 4)) := by
  have h1 := h.alloc (.cells (hcc n A k c) 38)
  have RB := RowB.new w 38 (hcc n A k c)
  have H1 := Lib.hid h1
  have G1 := Lib.hid (Gx.alloc K w (.cells (hcc n A k c) 38))
  have HR := Lib.hid RB
  have HKB : Hid (¬ K w.heap.size) := h.inv
  have HNE : Hid (w.heap.size ≠ X.b) := fun e => h.inv (e ▸ h.kb)
  have OK := Lib.hid ok
  have HH : Hid (MF w hb nh s.here) := h.mh
  have hhb := (h.lt _ (h.kh hb rfl)).2
  obtain ⟨b, mb, B⟩ := X
  simp only [hcc] at *
  clear h h1 RB ok
  go_enter Tryz.func139, Tryz.ntmps139
  go_wp2_with fail
  obtain ⟨W1, hW1⟩ : ∃ W1, W1 = w.alloc (.cells (#[.int .i64 n.kind, .int .i64 n.fro, .int .i64 n.til, .string n.word, .int .i64 n.at_, .slice A k c] : Array Value) 38) := ⟨_, rfl⟩
  rw [← hW1] at H1 G1 HR ⊢
  clear hW1 HH hhb
  obtain ⟨bx, hbx⟩ : ∃ bx, bx = w.heap.size := ⟨_, rfl⟩
  rw [← hbx] at HR HKB HNE ⊢
  clear hbx
  have HH := Lib.hid (show MF W1 hb nh s.here from H1.out.mh)
  have hx' := Lib.hid hx
  refine wp_region_G (S := SG (fun w' => RowB w' b 189 (wcc v1 v2 v3 v4 mb (some hb) s.lam s.item) ∧ RowB w' bx 38 #[.int .i64 n.kind, .int .i64 n.fro, .int .i64 n.til, .string n.word, .int .i64 n.at_, .slice A k c] ∧ MF w' hb nh s.here) 98 (fun _ => True) 99 (fun _ => True)) (by kernel_rfl) ⟨⟨H1.out.row, HR.out, HH.out⟩, fun _ => trivial, fun _ => trivial⟩ (fun hS => ?_)
  have H1 := Lib.hid (H1.out.drew)
  have G1 := Lib.hid (G1.out.trans (Gx.drew _ W1))
  obtain ⟨WD, hWD⟩ : ∃ WD, WD = W1.drew := ⟨_, rfl⟩
  have HR := Lib.hid (show RowB W1.drew _ _ _ from HR.out)
  rw [← hWD] at hS H1 G1 HR ⊢
  clear hWD HH
  refine wpG_t0 (i := 0) (v := ?v14) rfl (by kernel_rfl) (fun _ _ _ h => h) hS (Or.inl ⟨by rfl, ?hy14⟩) ?rest14
  case hy14 => (intro w' hw; obtain ⟨q1, q2, q3⟩ := hw; have u0 := q1.cell; have u1 := q2.cell; have u2 := q3.look Tryz.underlying187 hx; go_simp; try with_reducible rfl)
  replace hS := SG.set (i := 0) (by decide) (by decide) hS
  try simp only [pL]
  refine wpG_t0 (i := 1) (v := ?v15) rfl (by kernel_rfl) (fun _ _ _ h => h) hS (Or.inl ⟨by rfl, ?hy15⟩) ?rest15
  case hy15 => (intro w' hw; obtain ⟨q1, q2, q3⟩ := hw; have u0 := q1.cell; have u1 := q2.cell; have u2 := q3.look Tryz.underlying187 hx; go_simp; try with_reducible rfl)
  replace hS := SG.set (i := 1) (by decide) (by decide) hS
  try simp only [pL]
  refine wpG_t0 (i := 2) (v := ?v16) rfl (by kernel_rfl) (fun _ _ _ h => h) hS (Or.inl ⟨by rfl, ?hy16⟩) ?rest16
  case hy16 => (intro w' hw; obtain ⟨q1, q2, q3⟩ := hw; have u0 := q1.cell; have u1 := q2.cell; have u2 := q3.look Tryz.underlying187 hx; go_simp; try with_reducible rfl)
  replace hS := SG.set (i := 2) (by decide) (by decide) hS
  try simp only [pL]
  refine wpG_t0 (i := 3) (v := ?v17) rfl (by kernel_rfl) (fun _ _ _ h => h) hS (Or.inl ⟨by rfl, ?hy17⟩) ?rest17
  case hy17 => (intro w' hw; obtain ⟨q1, q2, q3⟩ := hw; have u0 := q1.cell; have u1 := q2.cell; have u2 := q3.look Tryz.underlying187 hx; go_simp; try with_reducible rfl)
  replace hS := SG.set (i := 3) (by decide) (by decide) hS
  try simp only [pL]
  refine wpG_t0 (i := 4) (v := ?v18) rfl (by kernel_rfl) (fun _ _ _ h => h) hS (Or.inl ⟨by rfl, ?hy18⟩) ?rest18
  case hy18 => (intro w' hw; obtain ⟨q1, q2, q3⟩ := hw; have u0 := q1.cell; have u1 := q2.cell; have u2 := q3.look Tryz.underlying187 hx; go_simp; try with_reducible rfl)
  replace hS := SG.set (i := 4) (by decide) (by decide) hS
  try simp only [pL]
  refine wpG_t0 (i := 5) (v := ?v19) rfl (by kernel_rfl) (fun _ _ _ h => h) hS (Or.inl ⟨by rfl, ?hy19⟩) ?rest19
  case hy19 => (intro w' hw; obtain ⟨q1, q2, q3⟩ := hw; have u0 := q1.cell; have u1 := q2.cell; have u2 := q3.look Tryz.underlying187 hx; go_simp; try with_reducible rfl)
  replace hS := SG.set (i := 5) (by decide) (by decide) hS
  try simp only [pL]
  refine wpG_t0 (i := 6) (v := ?v20) rfl (by kernel_rfl) (fun _ _ _ h => h) hS (Or.inl ⟨by rfl, ?hy20⟩) ?rest20
  case hy20 => (intro w' hw; obtain ⟨q1, q2, q3⟩ := hw; have u0 := q1.cell; have u1 := q2.cell; have u2 := q3.look Tryz.underlying187 hx; go_simp; try with_reducible rfl)
  replace hS := SG.set (i := 6) (by decide) (by decide) hS
  try simp only [pL]
  refine wpG_t0 (i := 7) (v := ?v21) rfl (by kernel_rfl) (fun _ _ _ h => h) hS (Or.inl ⟨by rfl, ?hy21⟩) ?rest21
  case hy21 => (intro w' hw; obtain ⟨q1, q2, q3⟩ := hw; have u0 := q1.cell; have u1 := q2.cell; have u2 := q3.look Tryz.underlying187 hx; go_simp; try with_reducible rfl)
  replace hS := SG.set (i := 7) (by decide) (by decide) hS
  try simp only [pL]
  refine wpG_t0 (i := 8) (v := ?v22) rfl (by kernel_rfl) (fun _ _ _ h => h) hS (Or.inl ⟨by rfl, ?hy22⟩) ?rest22
  case hy22 => (intro w' hw; obtain ⟨q1, q2, q3⟩ := hw; have u0 := q1.cell; have u1 := q2.cell; have u2 := q3.look Tryz.underlying187 hx; go_simp; try with_reducible rfl)
  replace hS := SG.set (i := 8) (by decide) (by decide) hS
  try simp only [pL]
  refine wpG_t0 (i := 9) (v := ?v23) rfl (by kernel_rfl) (fun _ _ _ h => h) hS (Or.inl ⟨by rfl, ?hy23⟩) ?rest23
  case hy23 => (intro w' hw; obtain ⟨q1, q2, q3⟩ := hw; have u0 := q1.cell; have u1 := q2.cell; have u2 := q3.look Tryz.underlying187 hx; go_simp; try with_reducible rfl)
  replace hS := SG.set (i := 9) (by decide) (by decide) hS
  try simp only [pL]
  refine wpG_t0 (i := 10) (v := ?v24) rfl (by kernel_rfl) (fun _ _ _ h => h) hS (Or.inl ⟨by rfl, ?hy24⟩) ?rest24
  case hy24 => (intro w' hw; obtain ⟨q1, q2, q3⟩ := hw; have u0 := q1.cell; have u1 := q2.cell; have u2 := q3.look Tryz.underlying187 hx; go_simp; try with_reducible rfl)
  replace hS := SG.set (i := 10) (by decide) (by decide) hS
  try simp only [pL]
  refine wpG_t0 (i := 11) (v := ?v25) rfl (by kernel_rfl) (fun _ _ _ h => h) hS (Or.inl ⟨by rfl, ?hy25⟩) ?rest25
  case hy25 => (intro w' hw; obtain ⟨q1, q2, q3⟩ := hw; have u0 := q1.cell; have u1 := q2.cell; have u2 := q3.look Tryz.underlying187 hx; go_simp; try with_reducible rfl)
  replace hS := SG.set (i := 11) (by decide) (by decide) hS
  try simp only [pL]
  clear hS
  refine wpG_done (by kernel_rfl) ?_ _
  obtain ⟨W1, hW1⟩ : ∃ W1, W1 = WD := ⟨_, rfl⟩
  rw [← hW1] at H1 G1 HR ⊢
  clear hW1
  cases hq : s.here n.word with
  | some q =>
    have HQ := Lib.hid hq
    clear hq
    simp only [Option.getD_some, Option.isSome_some]
    have y0 := HR.out.cell
    go_wp2_with fail
    clear y0
    have CW := Lib.hid (wrong_any H1.out n A k c 31 (by omega))
    simp only [hvv] at CW
    refine CW.out.mono ?_
    rintro e W2 ⟨rfl, K1, ⟨v1, v2, v3, v4, m1, n1, h2⟩, g2⟩
    have HR := Lib.hid (g2.row HR.out HKB.out)
    have G1 := Lib.hid (G1.out.trans g2)
    have H1 := Lib.hid h2
    clear h2 g2 CW
    obtain ⟨s0, hs0⟩ : ∃ s0 : St, s0 = s.wrong n.at_ 31 := ⟨_, rfl⟩
    rw [← hs0] at H1
    have HS0 : Hid (s0 = bind0 n.at_ n.word s) := by unfold Hid bind0; rw [HQ.out]; exact hs0
    clear hs0
    have HN1 : Hid (N + 1 ≤ N + 1) := Nat.le_refl _
    obtain ⟨W1, hW1⟩ : ∃ W1, W1 = W2 := ⟨_, rfl⟩
    rw [← hW1] at H1 G1 HR ⊢
    clear hW1
    go_wp2_with fail
    obtain ⟨A1, c1, ha1, _⟩ := own_shape H1.out.o1
    subst ha1
    obtain ⟨gm, hgm, hgg⟩ := H1.out.mm
    replace hgm := Lib.hid hgm
    replace hgg := Lib.hid hgg
    refine wp_region_G (S := SG (fun _ => True) 12 (fun w' => RowB w' b 189 (wcc (.slice A1 s0.bs.length c1) v2 v3 v4 mb (some hb) s0.lam s0.item) ∧ RowB w' bx 38 #[.int .i64 n.kind, .int .i64 n.fro, .int .i64 n.til, .string n.word, .int .i64 n.at_, .slice A k c]) 99 (fun _ => True)) (by kernel_rfl) ⟨trivial, fun _ => ⟨H1.out.row, HR.out⟩, fun _ => trivial⟩ (fun hS => ?_)
    obtain ⟨WD, hWD⟩ : ∃ WD, WD = W1.drew := ⟨_, rfl⟩
    have H1 := Lib.hid (H1.out.drew)
    have G1 := Lib.hid (G1.out.trans (Gx.drew _ W1))
    replace HR := Lib.hid (show RowB W1.drew _ _ _ from HR.out)
    rw [← hWD] at hS H1 G1 HR ⊢
    have hWDh : Hid (WD.heap = W1.heap) := by rw [hWD]; rfl
    clear hWD
    replace hgm := Lib.hid (show MF WD mb m1 gm from hgm.out.of_block (by rw [hWDh.out]))
    refine wpG_t1 (i := 0) (v := ?v26) rfl (by kernel_rfl) (fun _ _ _ h => h) hS (Or.inl ⟨by rfl, ?hy26⟩) ?rest26
    case hy26 => (intro w' hw; obtain ⟨_, q1, q2⟩ := hw; have u0 := q1.cell; have u1 := q2.cell; go_simp; try with_reducible rfl)
    replace hS := SG.set (i := 0) (by decide) (by decide) hS
    try simp only [pL]
    refine wpG_t1 (i := 1) (v := ?v27) rfl (by kernel_rfl) (fun _ _ _ h => h) hS (Or.inl ⟨by rfl, ?hy27⟩) ?rest27
    case hy27 => (intro w' hw; obtain ⟨_, q1, q2⟩ := hw; have u0 := q1.cell; have u1 := q2.cell; go_simp; try with_reducible rfl)
    replace hS := SG.set (i := 1) (by decide) (by decide) hS
    try simp only [pL]
    refine wpG_t1 (i := 2) (v := ?v28) rfl (by kernel_rfl) (fun _ _ _ h => h) hS (Or.inl ⟨by rfl, ?hy28⟩) ?rest28
    case hy28 => (intro w' hw; obtain ⟨_, q1, q2⟩ := hw; have u0 := q1.cell; have u1 := q2.cell; go_simp; try with_reducible rfl)
    replace hS := SG.set (i := 2) (by decide) (by decide) hS
    try simp only [pL]
    refine wpG_t1 (i := 3) (v := ?v29) rfl (by kernel_rfl) (fun _ _ _ h => h) hS (Or.inl ⟨by rfl, ?hy29⟩) ?rest29
    case hy29 => (intro w' hw; obtain ⟨_, q1, q2⟩ := hw; have u0 := q1.cell; have u1 := q2.cell; go_simp; try with_reducible rfl)
    replace hS := SG.set (i := 3) (by decide) (by decide) hS
    try simp only [pL]
    refine wpG_t1 (i := 4) (v := ?v30) rfl (by kernel_rfl) (fun _ _ _ h => h) hS (Or.inl ⟨by rfl, ?hy30⟩) ?rest30
    case hy30 => (intro w' hw; obtain ⟨_, q1, q2⟩ := hw; have u0 := q1.cell; have u1 := q2.cell; go_simp; try with_reducible rfl)
    replace hS := SG.set (i := 4) (by decide) (by decide) hS
    try simp only [pL]
    refine wpG_t1 (i := 5) (v := ?v31) rfl (by kernel_rfl) (fun _ _ _ h => h) hS (Or.inl ⟨by rfl, ?hy31⟩) ?rest31
    case hy31 => (intro w' hw; obtain ⟨_, q1, q2⟩ := hw; have u0 := q1.cell; have u1 := q2.cell; go_simp; try with_reducible rfl)
    replace hS := SG.set (i := 5) (by decide) (by decide) hS
    try simp only [pL]
    refine wpG_t1 (i := 6) (v := ?v32) rfl (by kernel_rfl) (fun _ _ _ h => h) hS (Or.inl ⟨by rfl, ?hy32⟩) ?rest32
    case hy32 => (intro w' hw; obtain ⟨_, q1, q2⟩ := hw; have u0 := q1.cell; have u1 := q2.cell; go_simp; try with_reducible rfl)
    replace hS := SG.set (i := 6) (by decide) (by decide) hS
    try simp only [pL]
    refine wpG_t1 (i := 7) (v := ?v33) rfl (by kernel_rfl) (fun _ _ _ h => h) hS (Or.inl ⟨by rfl, ?hy33⟩) ?rest33
    case hy33 => (intro w' hw; obtain ⟨_, q1, q2⟩ := hw; have u0 := q1.cell; have u1 := q2.cell; go_simp; try with_reducible rfl)
    replace hS := SG.set (i := 7) (by decide) (by decide) hS
    try simp only [pL]
    refine wpG_t1 (i := 8) (v := ?v34) rfl (by kernel_rfl) (fun _ _ _ h => h) hS (Or.inl ⟨by rfl, ?hy34⟩) ?rest34
    case hy34 => (intro w' hw; obtain ⟨_, q1, q2⟩ := hw; have u0 := q1.cell; have u1 := q2.cell; go_simp; try with_reducible rfl)
    replace hS := SG.set (i := 8) (by decide) (by decide) hS
    try simp only [pL]
    refine wpG_t1 (i := 9) (v := ?v35) rfl (by kernel_rfl) (fun _ _ _ h => h) hS (Or.inl ⟨by rfl, ?hy35⟩) ?rest35
    case hy35 => (intro w' hw; obtain ⟨_, q1, q2⟩ := hw; have u0 := q1.cell; have u1 := q2.cell; go_simp; try with_reducible rfl)
    replace hS := SG.set (i := 9) (by decide) (by decide) hS
    try simp only [pL]
    refine wpG_t1 (i := 10) (v := ?v36) rfl (by kernel_rfl) (fun _ _ _ h => h) hS (Or.inl ⟨by rfl, ?hy36⟩) ?rest36
    case hy36 => (intro w' hw; obtain ⟨_, q1, q2⟩ := hw; have u0 := q1.cell; have u1 := q2.cell; go_simp; try with_reducible rfl)
    replace hS := SG.set (i := 10) (by decide) (by decide) hS
    try simp only [pL]
    refine wpG_t1 (i := 11) (v := ?v37) rfl (by kernel_rfl) (fun _ _ _ h => h) hS (Or.inl ⟨by rfl, ?hy37⟩) ?rest37
    case hy37 => (intro w' hw; obtain ⟨_, q1, q2⟩ := hw; have u0 := q1.cell; have u1 := q2.cell; go_simp; try with_reducible rfl)
    replace hS := SG.set (i := 11) (by decide) (by decide) hS
    try simp only [pL]
    clear hS
    obtain ⟨W3, hr, hm, hg⟩ := hgm.out.put Tryz.underlying186 (by have := H1.out.sum; simp only [maxLen]; omega) (x := n.word) hx (v := (s0.bs.length : Int)) (wfI (by omega) (by have := H1.out.sum; omega))
    have FIN := Lib.hid (H1.out.means_put (MM.put hgg.out hm) hg)
    have B3 := Lib.hid (show RowB W3 bx 38 _ from (hg.block _ HR.out.lt (fun e => by injection e with e; exact row_ne_map HR.out hgm.out e.symm)).trans HR.out)
    clear hm hg hgm hgg
    refine wpG_ready (rs := [12]) (by kernel_rfl) (by simp) ?_
    refine RG.cons rfl rfl (fun K' hK => ?_) RG.nil
    refine wp_mapUpdate_run (.tmp 35) (.tmp 37) (.tmp 43) 186 (by rfl) (by rfl) (by rfl) (by rfl) hr ?_
    refine hK.out _ _ ⟨trivial, fun h => absurd (h : true = false) (by decide), fun _ => trivial⟩ (fun hS => ?_)
    clear hK K'
    try simp only [pL]
    clear hS hr
    refine wpG_done (by kernel_rfl) ?_ _
    go_wp2_with fail
    obtain ⟨s1, hs1⟩ : ∃ s1 : St, s1 = { s0 with means := up s0.means n.word s0.bs.length } := ⟨_, rfl⟩
    rw [← hs1] at FIN
    have HS1 := Lib.hid hs1
    clear hs1
    have H1 := Lib.hid FIN.out.1
    have G1 := Lib.hid (G1.out.trans FIN.out.2)
    replace HR := B3
    clear FIN B3
    obtain ⟨W1, hW1⟩ : ∃ W1, W1 = W3 := ⟨_, rfl⟩
    rw [← hW1] at H1 G1 HR ⊢
    clear hW1
    refine wp_region_G (S := SG (fun _ => True) 13 (fun w' => RowB w' b 189 (wcc (.slice A1 s0.bs.length c1) v2 v3 v4 mb (some hb) s1.lam s1.item) ∧ RowB w' bx 38 #[.int .i64 n.kind, .int .i64 n.fro, .int .i64 n.til, .string n.word, .int .i64 n.at_, .slice A k c]) 99 (fun _ => True)) (by kernel_rfl) ⟨trivial, fun _ => ⟨H1.out.row, HR.out⟩, fun _ => trivial⟩ (fun hS => ?_)
    obtain ⟨WD, hWD⟩ : ∃ WD, WD = W1.drew := ⟨_, rfl⟩
    have H1 := Lib.hid (H1.out.drew)
    have G1 := Lib.hid (G1.out.trans (Gx.drew _ W1))
    replace HR := Lib.hid (show RowB W1.drew _ _ _ from HR.out)
    rw [← hWD] at hS H1 G1 HR ⊢
    have hWDh : Hid (WD.heap = W1.heap) := by rw [hWD]; rfl
    clear hWD
    refine wpG_t1 (i := 0) (v := ?v38) rfl (by kernel_rfl) (fun _ _ _ h => h) hS (Or.inl ⟨by rfl, ?hy38⟩) ?rest38
    case hy38 => (intro w' hw; obtain ⟨_, q1, q2⟩ := hw; have u0 := q1.cell; have u1 := q2.cell; go_simp; try with_reducible rfl)
    replace hS := SG.set (i := 0) (by decide) (by decide) hS
    try simp only [pL]
    refine wpG_t1 (i := 1) (v := ?v39) rfl (by kernel_rfl) (fun _ _ _ h => h) hS (Or.inl ⟨by rfl, ?hy39⟩) ?rest39
    case hy39 => (intro w' hw; obtain ⟨_, q1, q2⟩ := hw; have u0 := q1.cell; have u1 := q2.cell; go_simp; try with_reducible rfl)
    replace hS := SG.set (i := 1) (by decide) (by decide) hS
    try simp only [pL]
    refine wpG_t1 (i := 2) (v := ?v40) rfl (by kernel_rfl) (fun _ _ _ h => h) hS (Or.inl ⟨by rfl, ?hy40⟩) ?rest40
    case hy40 => (intro w' hw; obtain ⟨_, q1, q2⟩ := hw; have u0 := q1.cell; have u1 := q2.cell; go_simp; try with_reducible rfl)
    replace hS := SG.set (i := 2) (by decide) (by decide) hS
    try simp only [pL]
    refine wpG_t1 (i := 3) (v := ?v41) rfl (by kernel_rfl) (fun _ _ _ h => h) hS (Or.inl ⟨by rfl, ?hy41⟩) ?rest41
    case hy41 => (intro w' hw; obtain ⟨_, q1, q2⟩ := hw; have u0 := q1.cell; have u1 := q2.cell; go_simp; try with_reducible rfl)
    replace hS := SG.set (i := 3) (by decide) (by decide) hS
    try simp only [pL]
    refine wpG_t1 (i := 4) (v := ?v42) rfl (by kernel_rfl) (fun _ _ _ h => h) hS (Or.inl ⟨by rfl, ?hy42⟩) ?rest42
    case hy42 => (intro w' hw; obtain ⟨_, q1, q2⟩ := hw; have u0 := q1.cell; have u1 := q2.cell; go_simp; try with_reducible rfl)
    replace hS := SG.set (i := 4) (by decide) (by decide) hS
    try simp only [pL]
    refine wpG_t1 (i := 5) (v := ?v43) rfl (by kernel_rfl) (fun _ _ _ h => h) hS (Or.inl ⟨by rfl, ?hy43⟩) ?rest43
    case hy43 => (intro w' hw; obtain ⟨_, q1, q2⟩ := hw; have u0 := q1.cell; have u1 := q2.cell; go_simp; try with_reducible rfl)
    replace hS := SG.set (i := 5) (by decide) (by decide) hS
    try simp only [pL]
    refine wpG_t1 (i := 6) (v := ?v44) rfl (by kernel_rfl) (fun _ _ _ h => h) hS (Or.inl ⟨by rfl, ?hy44⟩) ?rest44
    case hy44 => (intro w' hw; obtain ⟨_, q1, q2⟩ := hw; have u0 := q1.cell; have u1 := q2.cell; go_simp; try with_reducible rfl)
    replace hS := SG.set (i := 6) (by decide) (by decide) hS
    try simp only [pL]
    refine wpG_t1 (i := 7) (v := ?v45) rfl (by kernel_rfl) (fun _ _ _ h => h) hS (Or.inl ⟨by rfl, ?hy45⟩) ?rest45
    case hy45 => (intro w' hw; obtain ⟨_, q1, q2⟩ := hw; have u0 := q1.cell; have u1 := q2.cell; go_simp; try with_reducible rfl)
    replace hS := SG.set (i := 7) (by decide) (by decide) hS
    try simp only [pL]
    refine wpG_t1 (i := 8) (v := ?v46) rfl (by kernel_rfl) (fun _ _ _ h => h) hS (Or.inl ⟨by rfl, ?hy46⟩) ?rest46
    case hy46 => (intro w' hw; obtain ⟨_, q1, q2⟩ := hw; have u0 := q1.cell; have u1 := q2.cell; go_simp; try with_reducible rfl)
    replace hS := SG.set (i := 8) (by decide) (by decide) hS
    try simp only [pL]
    clear hS
    have H2 := Lib.hid (H1.out.alloc (.cells #[.int .i64 s1.lam] 3))
    have G2 := Lib.hid (G1.out.trans (Gx.alloc _ WD (.cells #[.int .i64 s1.lam] 3)))
    have RN := Lib.hid (RowB.new WD 3 #[.int .i64 s1.lam])
    have HR2 := Lib.hid (HR.out.alloc (.cells #[.int .i64 s1.lam] 3))
    refine wpG_ready (rs := [9]) (by kernel_rfl) (by simp) ?_
    refine RG.cons rfl rfl (fun K' hK => ?_) RG.nil
    go_simp
    refine hK.out _ _ ⟨trivial, fun _ => ⟨H2.out.row, HR2.out⟩, fun _ => trivial⟩ (fun hS => ?_)
    clear hK K'
    try simp only [pL]
    clear hS
    obtain ⟨W2, hW2⟩ : ∃ W2, W2 = WD.alloc (.cells #[.int .i64 s1.lam] 3) := ⟨_, rfl⟩
    rw [← hW2] at H2 G2 RN HR2 ⊢
    obtain ⟨v', W3, hr, ho, hg, hl⟩ := app_at (w := W2) (t := 154) (e := 3) (size := 1) (bytes := 8) (z := .int .i64 0) Tryz.underlying154 (by kernel_rfl) rfl (by decide) (by decide) B v4 _ _ H2.out.o4 _ _ RN.out rfl (by intro u hu; simp at hu; subst hu; rfl) (by have := H2.out.sum; omega) (by have := (H2.out.lt _ H2.out.kb); simp only at this; omega) 154
    have r3 : RowB W3 b 189 (wcc (.slice A1 s0.bs.length c1) v2 v3 v4 mb (some hb) s1.lam s1.item) := (hg.block _ H2.out.row.lt (fun e => own_ne_row H2.out.o4 H2.out.row (by decide) e.symm)).trans H2.out.row
    have b3 : RowB W3 bx 38 #[.int .i64 n.kind, .int .i64 n.fro, .int .i64 n.til, .string n.word, .int .i64 n.at_, .slice A k c] := (hg.block _ HR2.out.lt (fun e => own_ne_row H2.out.o4 HR2.out (by decide) e.symm)).trans HR2.out
    have FIN := Lib.hid (H2.out.app4 (x := s1.lam) ho hg hl)
    obtain ⟨A', c', rfl, _⟩ := own_shape ho
    have R3 := Lib.hid r3
    have B3 := Lib.hid b3
    clear ho hg hl r3 b3 hW2 H2 HR2 RN
    refine wpG_ready (rs := [10]) (by kernel_rfl) (by simp) ?_
    refine RG.cons rfl rfl (fun K' hK => ?_) RG.nil
    refine wp_append_run (.tmp 48) (.tmp 53) 154 (by rfl) (by rfl) (by rfl) hr ?_
    refine hK.out _ _ ⟨trivial, fun _ => ⟨R3.out, B3.out⟩, fun _ => trivial⟩ (fun hS => ?_)
    clear hK K'
    try simp only [pL]
    clear hr
    refine wpG_t0 (i := 11) (v := ?v47) rfl (by kernel_rfl) (fun _ _ _ h => h) hS (Or.inl ⟨by rfl, ?hy47⟩) ?rest47
    case hy47 => (intro w' hw; go_simp; try with_reducible rfl)
    replace hS := SG.set (i := 11) (by decide) (by decide) hS
    try simp only [pL]
    refine wpG_t0 (i := 12) (v := ?v48) rfl (by kernel_rfl) (fun _ _ _ h => h) hS (Or.inl ⟨by rfl, ?hy48⟩) ?rest48
    case hy48 => (intro w' hw; go_simp; try with_reducible rfl)
    replace hS := SG.set (i := 12) (by decide) (by decide) hS
    try simp only [pL]
    clear hS
    have yc := R3.out.cell
    have yt := R3.out.thaw
    refine wpG_ready (rs := [13]) (by kernel_rfl) (by simp) ?_
    refine RG.cons rfl rfl (fun K' hK => ?_) RG.nil
    go_simp
    refine hK.out _ _ ⟨trivial, fun h => absurd (h : true = false) (by decide), fun _ => trivial⟩ (fun hS => ?_)
    clear hK K'
    try simp only [pL]
    clear hS yc yt R3
    refine wpG_done (by kernel_rfl) ?_ _
    go_wp2_with fail
    obtain ⟨s2, hs2⟩ : ∃ s2 : St, s2 = { s1 with within := s1.within ++ [s1.lam] } := ⟨_, rfl⟩
    rw [← hs2] at FIN
    have HS2 := Lib.hid hs2
    clear hs2
    have H1 := Lib.hid FIN.out.1
    have G1 := Lib.hid (G2.out.trans FIN.out.2)
    have HR := Lib.hid (B3.out.far (p := ⟨b, 6, none⟩) HNE.out (.slice A' (s1.within.length + 1) c'))
    clear FIN B3 G2
    obtain ⟨W1, hW1⟩ : ∃ W1, W1 = W3.setCell ⟨b, 6, none⟩ (.slice A' (s1.within.length + 1) c') := ⟨_, rfl⟩
    rw [← hW1] at H1 G1 HR ⊢
    clear hW1
    obtain ⟨v4', hv4'⟩ : ∃ v4', v4' = Value.slice A' (s1.within.length + 1) c' := ⟨_, rfl⟩
    rw [← hv4'] at H1 G1
    clear hv4'
    refine wp_region_G (S := SG (fun _ => True) 21 (fun w' => RowB w' b 189 (wcc (.slice A1 s0.bs.length c1) v2 v3 v4' mb (some hb) s2.lam s2.item) ∧ RowB w' bx 38 #[.int .i64 n.kind, .int .i64 n.fro, .int .i64 n.til, .string n.word, .int .i64 n.at_, .slice A k c]) 99 (fun _ => True)) (by kernel_rfl) ⟨trivial, fun _ => ⟨H1.out.row, HR.out⟩, fun _ => trivial⟩ (fun hS => ?_)
    obtain ⟨WD, hWD⟩ : ∃ WD, WD = W1.drew := ⟨_, rfl⟩
    have H1 := Lib.hid (H1.out.drew)
    have G1 := Lib.hid (G1.out.trans (Gx.drew _ W1))
    replace HR := Lib.hid (show RowB W1.drew _ _ _ from HR.out)
    rw [← hWD] at hS H1 G1 HR ⊢
    have hWDh : Hid (WD.heap = W1.heap) := by rw [hWD]; rfl
    clear hWD
    refine wpG_t1 (i := 0) (v := ?v49) rfl (by kernel_rfl) (fun _ _ _ h => h) hS (Or.inl ⟨by rfl, ?hy49⟩) ?rest49
    case hy49 => (intro w' hw; obtain ⟨_, q1, q2⟩ := hw; have u0 := q1.cell; have u1 := q2.cell; go_simp; try with_reducible rfl)
    replace hS := SG.set (i := 0) (by decide) (by decide) hS
    try simp only [pL]
    refine wpG_t1 (i := 1) (v := ?v50) rfl (by kernel_rfl) (fun _ _ _ h => h) hS (Or.inl ⟨by rfl, ?hy50⟩) ?rest50
    case hy50 => (intro w' hw; obtain ⟨_, q1, q2⟩ := hw; have u0 := q1.cell; have u1 := q2.cell; go_simp; try with_reducible rfl)
    replace hS := SG.set (i := 1) (by decide) (by decide) hS
    try simp only [pL]
    refine wpG_t1 (i := 2) (v := ?v51) rfl (by kernel_rfl) (fun _ _ _ h => h) hS (Or.inl ⟨by rfl, ?hy51⟩) ?rest51
    case hy51 => (intro w' hw; obtain ⟨_, q1, q2⟩ := hw; have u0 := q1.cell; have u1 := q2.cell; go_simp; try with_reducible rfl)
    replace hS := SG.set (i := 2) (by decide) (by decide) hS
    try simp only [pL]
    refine wpG_t1 (i := 3) (v := ?v52) rfl (by kernel_rfl) (fun _ _ _ h => h) hS (Or.inl ⟨by rfl, ?hy52⟩) ?rest52
    case hy52 => (intro w' hw; obtain ⟨_, q1, q2⟩ := hw; have u0 := q1.cell; have u1 := q2.cell; go_simp; try with_reducible rfl)
    replace hS := SG.set (i := 3) (by decide) (by decide) hS
    try simp only [pL]
    refine wpG_t1 (i := 4) (v := ?v53) rfl (by kernel_rfl) (fun _ _ _ h => h) hS (Or.inl ⟨by rfl, ?hy53⟩) ?rest53
    case hy53 => (intro w' hw; obtain ⟨_, q1, q2⟩ := hw; have u0 := q1.cell; have u1 := q2.cell; go_simp; try with_reducible rfl)
    replace hS := SG.set (i := 4) (by decide) (by decide) hS
    try simp only [pL]
    refine wpG_t1 (i := 5) (v := ?v54) rfl (by kernel_rfl) (fun _ _ _ h => h) hS (Or.inl ⟨by rfl, ?hy54⟩) ?rest54
    case hy54 => (intro w' hw; obtain ⟨_, q1, q2⟩ := hw; have u0 := q1.cell; have u1 := q2.cell; go_simp; try with_reducible rfl)
    replace hS := SG.set (i := 5) (by decide) (by decide) hS
    try simp only [pL]
    refine wpG_t1 (i := 6) (v := ?v55) rfl (by kernel_rfl) (fun _ _ _ h => h) hS (Or.inl ⟨by rfl, ?hy55⟩) ?rest55
    case hy55 => (intro w' hw; obtain ⟨_, q1, q2⟩ := hw; have u0 := q1.cell; have u1 := q2.cell; go_simp; try with_reducible rfl)
    replace hS := SG.set (i := 6) (by decide) (by decide) hS
    try simp only [pL]
    refine wpG_t1 (i := 7) (v := ?v56) rfl (by kernel_rfl) (fun _ _ _ h => h) hS (Or.inl ⟨by rfl, ?hy56⟩) ?rest56
    case hy56 => (intro w' hw; obtain ⟨_, q1, q2⟩ := hw; have u0 := q1.cell; have u1 := q2.cell; go_simp; try with_reducible rfl)
    replace hS := SG.set (i := 7) (by decide) (by decide) hS
    try simp only [pL]
    refine wpG_t1 (i := 8) (v := ?v57) rfl (by kernel_rfl) (fun _ _ _ h => h) hS (Or.inl ⟨by rfl, ?hy57⟩) ?rest57
    case hy57 => (intro w' hw; obtain ⟨_, q1, q2⟩ := hw; have u0 := q1.cell; have u1 := q2.cell; go_simp; try with_reducible rfl)
    replace hS := SG.set (i := 8) (by decide) (by decide) hS
    try simp only [pL]
    refine wpG_t1 (i := 9) (v := ?v58) rfl (by kernel_rfl) (fun _ _ _ h => h) hS (Or.inl ⟨by rfl, ?hy58⟩) ?rest58
    case hy58 => (intro w' hw; obtain ⟨_, q1, q2⟩ := hw; have u0 := q1.cell; have u1 := q2.cell; go_simp; try with_reducible rfl)
    replace hS := SG.set (i := 9) (by decide) (by decide) hS
    try simp only [pL]
    refine wpG_t1 (i := 10) (v := ?v59) rfl (by kernel_rfl) (fun _ _ _ h => h) hS (Or.inl ⟨by rfl, ?hy59⟩) ?rest59
    case hy59 => (intro w' hw; obtain ⟨_, q1, q2⟩ := hw; have u0 := q1.cell; have u1 := q2.cell; go_simp; try with_reducible rfl)
    replace hS := SG.set (i := 10) (by decide) (by decide) hS
    try simp only [pL]
    refine wpG_t1 (i := 11) (v := ?v60) rfl (by kernel_rfl) (fun _ _ _ h => h) hS (Or.inl ⟨by rfl, ?hy60⟩) ?rest60
    case hy60 => (intro w' hw; obtain ⟨_, q1, q2⟩ := hw; have u0 := q1.cell; have u1 := q2.cell; go_simp; try with_reducible rfl)
    replace hS := SG.set (i := 11) (by decide) (by decide) hS
    try simp only [pL]
    refine wpG_t1 (i := 12) (v := ?v61) rfl (by kernel_rfl) (fun _ _ _ h => h) hS (Or.inl ⟨by rfl, ?hy61⟩) ?rest61
    case hy61 => (intro w' hw; obtain ⟨_, q1, q2⟩ := hw; have u0 := q1.cell; have u1 := q2.cell; go_simp; try with_reducible rfl)
    replace hS := SG.set (i := 12) (by decide) (by decide) hS
    try simp only [pL]
    refine wpG_t1 (i := 13) (v := ?v62) rfl (by kernel_rfl) (fun _ _ _ h => h) hS (Or.inl ⟨by rfl, ?hy62⟩) ?rest62
    case hy62 => (intro w' hw; obtain ⟨_, q1, q2⟩ := hw; have u0 := q1.cell; have u1 := q2.cell; go_simp; try with_reducible rfl)
    replace hS := SG.set (i := 13) (by decide) (by decide) hS
    try simp only [pL]
    refine wpG_t1 (i := 14) (v := ?v63) rfl (by kernel_rfl) (fun _ _ _ h => h) hS (Or.inl ⟨by rfl, ?hy63⟩) ?rest63
    case hy63 => (intro w' hw; obtain ⟨_, q1, q2⟩ := hw; have u0 := q1.cell; have u1 := q2.cell; go_simp; try with_reducible rfl)
    replace hS := SG.set (i := 14) (by decide) (by decide) hS
    try simp only [pL]
    refine wpG_t1 (i := 15) (v := ?v64) rfl (by kernel_rfl) (fun _ _ _ h => h) hS (Or.inl ⟨by rfl, ?hy64⟩) ?rest64
    case hy64 => (intro w' hw; obtain ⟨_, q1, q2⟩ := hw; have u0 := q1.cell; have u1 := q2.cell; go_simp; try with_reducible rfl)
    replace hS := SG.set (i := 15) (by decide) (by decide) hS
    try simp only [pL]
    clear hS
    have H2 := Lib.hid (H1.out.alloc (.cells #[.int .i64 n.at_, .int .i64 kd, .string n.word, .int .i64 s2.item] 60))
    have G2 := Lib.hid (G1.out.trans (Gx.alloc _ WD (.cells #[.int .i64 n.at_, .int .i64 kd, .string n.word, .int .i64 s2.item] 60)))
    have RN := Lib.hid (RowB.new WD 60 #[.int .i64 n.at_, .int .i64 kd, .string n.word, .int .i64 s2.item])
    have HR2 := Lib.hid (HR.out.alloc (.cells #[.int .i64 n.at_, .int .i64 kd, .string n.word, .int .i64 s2.item] 60))
    refine wpG_ready (rs := [16]) (by kernel_rfl) (by simp) ?_
    refine RG.cons rfl rfl (fun K' hK => ?_) RG.nil
    go_simp
    refine hK.out _ _ ⟨trivial, fun _ => ⟨H2.out.row, HR2.out⟩, fun _ => trivial⟩ (fun hS => ?_)
    clear hK K'
    try simp only [pL]
    clear hS
    obtain ⟨W2, hW2⟩ : ∃ W2, W2 = WD.alloc (.cells #[.int .i64 n.at_, .int .i64 kd, .string n.word, .int .i64 s2.item] 60) := ⟨_, rfl⟩
    rw [← hW2] at H2 G2 RN HR2 ⊢
    obtain ⟨v', W3, hr, ho, hg, hl⟩ := app_at (w := W2) (t := 46) (e := 60) (size := 4) (bytes := 40) (z := .agg #[.int .i64 0, .int .i64 0, .string ⟨#[]⟩, .int .i64 0]) Tryz.underlying46 (by kernel_rfl) rfl (by decide) (by decide) B (.slice A1 s0.bs.length c1) _ _ H2.out.o1 _ _ RN.out rfl (by intro u hu; simp at hu; rcases hu with rfl | rfl | rfl | rfl <;> rfl) (by have := H2.out.sum; omega) (by have := (H2.out.lt _ H2.out.kb); simp only at this; omega) 46
    have r3 : RowB W3 b 189 (wcc (.slice A1 s0.bs.length c1) v2 v3 v4' mb (some hb) s2.lam s2.item) := (hg.block _ H2.out.row.lt (fun e => own_ne_row H2.out.o1 H2.out.row (by decide) e.symm)).trans H2.out.row
    have b3 : RowB W3 bx 38 #[.int .i64 n.kind, .int .i64 n.fro, .int .i64 n.til, .string n.word, .int .i64 n.at_, .slice A k c] := (hg.block _ HR2.out.lt (fun e => own_ne_row H2.out.o1 HR2.out (by decide) e.symm)).trans HR2.out
    have FIN := Lib.hid (H2.out.app1 (x := ⟨n.at_, kd, n.word, s2.item⟩) ho hg hl)
    obtain ⟨A', c', rfl, _⟩ := own_shape ho
    have R3 := Lib.hid r3
    have B3 := Lib.hid b3
    clear ho hg hl r3 b3 hW2 H2 HR2 RN
    refine wpG_ready (rs := [17]) (by kernel_rfl) (by simp) ?_
    refine RG.cons rfl rfl (fun K' hK => ?_) RG.nil
    refine wp_append_run (.tmp 62) (.tmp 73) 46 (by rfl) (by rfl) (by rfl) hr ?_
    refine hK.out _ _ ⟨trivial, fun _ => ⟨R3.out, B3.out⟩, fun _ => trivial⟩ (fun hS => ?_)
    clear hK K'
    try simp only [pL]
    clear hr
    refine wpG_t0 (i := 18) (v := ?v65) rfl (by kernel_rfl) (fun _ _ _ h => h) hS (Or.inl ⟨by rfl, ?hy65⟩) ?rest65
    case hy65 => (intro w' hw; go_simp; try with_reducible rfl)
    replace hS := SG.set (i := 18) (by decide) (by decide) hS
    try simp only [pL]
    refine wpG_t0 (i := 19) (v := ?v66) rfl (by kernel_rfl) (fun _ _ _ h => h) hS (Or.inl ⟨by rfl, ?hy66⟩) ?rest66
    case hy66 => (intro w' hw; go_simp; try with_reducible rfl)
    replace hS := SG.set (i := 19) (by decide) (by decide) hS
    try simp only [pL]
    refine wpG_t0 (i := 20) (v := ?v67) rfl (by kernel_rfl) (fun _ _ _ h => h) hS (Or.inl ⟨by rfl, ?hy67⟩) ?rest67
    case hy67 => (intro w' hw; go_simp; try with_reducible rfl)
    replace hS := SG.set (i := 20) (by decide) (by decide) hS
    try simp only [pL]
    clear hS
    have yc := R3.out.cell
    have yt := R3.out.thaw
    refine wpG_ready (rs := [21]) (by kernel_rfl) (by simp) ?_
    refine RG.cons rfl rfl (fun K' hK => ?_) RG.nil
    go_simp
    refine hK.out _ _ ⟨trivial, fun h => absurd (h : true = false) (by decide), fun _ => trivial⟩ (fun hS => ?_)
    clear hK K'
    try simp only [pL]
    clear hS yc yt R3
    refine wpG_done (by kernel_rfl) ?_ _
    go_end0
    have FE := (FIN.out.1).mono (N' := N + 4) (by omega)
    rw [bind_eq n.at_ n.word kd s s0 s1 s2 _ HS0.out HS1.out HS2.out rfl] at FE
    exact ⟨rfl, _, ⟨_, _, _, _, _, _, FE⟩, G2.out.trans FIN.out.2⟩
  | none =>
    have HQ := Lib.hid hq
    clear hq
    simp only [Option.getD_none, Option.isSome_none]
    go_wp2_with fail
    refine wp_region_G (S := SG (fun _ => True) 10 (fun w' => RowB w' b 189 (wcc v1 v2 v3 v4 mb (some hb) s.lam s.item) ∧ RowB w' bx 38 #[.int .i64 n.kind, .int .i64 n.fro, .int .i64 n.til, .string n.word, .int .i64 n.at_, .slice A k c]) 99 (fun _ => True)) (by kernel_rfl) ⟨trivial, fun _ => ⟨H1.out.row, HR.out⟩, fun _ => trivial⟩ (fun hS => ?_)
    obtain ⟨WD, hWD⟩ : ∃ WD, WD = W1.drew := ⟨_, rfl⟩
    have H1 := Lib.hid (H1.out.drew)
    have G1 := Lib.hid (G1.out.trans (Gx.drew _ W1))
    replace HR := Lib.hid (show RowB W1.drew _ _ _ from HR.out)
    rw [← hWD] at hS H1 G1 HR ⊢
    have hWDh : Hid (WD.heap = W1.heap) := by rw [hWD]; rfl
    clear hWD
    refine wpG_t1 (i := 0) (v := ?v68) rfl (by kernel_rfl) (fun _ _ _ h => h) hS (Or.inl ⟨by rfl, ?hy68⟩) ?rest68
    case hy68 => (intro w' hw; obtain ⟨_, q1, q2⟩ := hw; have u0 := q1.cell; have u1 := q2.cell; go_simp; try with_reducible rfl)
    replace hS := SG.set (i := 0) (by decide) (by decide) hS
    try simp only [pL]
    refine wpG_t1 (i := 1) (v := ?v69) rfl (by kernel_rfl) (fun _ _ _ h => h) hS (Or.inl ⟨by rfl, ?hy69⟩) ?rest69
    case hy69 => (intro w' hw; obtain ⟨_, q1, q2⟩ := hw; have u0 := q1.cell; have u1 := q2.cell; go_simp; try with_reducible rfl)
    replace hS := SG.set (i := 1) (by decide) (by decide) hS
    try simp only [pL]
    refine wpG_t1 (i := 2) (v := ?v70) rfl (by kernel_rfl) (fun _ _ _ h => h) hS (Or.inl ⟨by rfl, ?hy70⟩) ?rest70
    case hy70 => (intro w' hw; obtain ⟨_, q1, q2⟩ := hw; have u0 := q1.cell; have u1 := q2.cell; go_simp; try with_reducible rfl)
    replace hS := SG.set (i := 2) (by decide) (by decide) hS
    try simp only [pL]
    refine wpG_t1 (i := 3) (v := ?v71) rfl (by kernel_rfl) (fun _ _ _ h => h) hS (Or.inl ⟨by rfl, ?hy71⟩) ?rest71
    case hy71 => (intro w' hw; obtain ⟨_, q1, q2⟩ := hw; have u0 := q1.cell; have u1 := q2.cell; go_simp; try with_reducible rfl)
    replace hS := SG.set (i := 3) (by decide) (by decide) hS
    try simp only [pL]
    refine wpG_t1 (i := 4) (v := ?v72) rfl (by kernel_rfl) (fun _ _ _ h => h) hS (Or.inl ⟨by rfl, ?hy72⟩) ?rest72
    case hy72 => (intro w' hw; obtain ⟨_, q1, q2⟩ := hw; have u0 := q1.cell; have u1 := q2.cell; go_simp; try with_reducible rfl)
    replace hS := SG.set (i := 4) (by decide) (by decide) hS
    try simp only [pL]
    refine wpG_t1 (i := 5) (v := ?v73) rfl (by kernel_rfl) (fun _ _ _ h => h) hS (Or.inl ⟨by rfl, ?hy73⟩) ?rest73
    case hy73 => (intro w' hw; obtain ⟨_, q1, q2⟩ := hw; have u0 := q1.cell; have u1 := q2.cell; go_simp; try with_reducible rfl)
    replace hS := SG.set (i := 5) (by decide) (by decide) hS
    try simp only [pL]
    refine wpG_t1 (i := 6) (v := ?v74) rfl (by kernel_rfl) (fun _ _ _ h => h) hS (Or.inl ⟨by rfl, ?hy74⟩) ?rest74
    case hy74 => (intro w' hw; obtain ⟨_, q1, q2⟩ := hw; have u0 := q1.cell; have u1 := q2.cell; go_simp; try with_reducible rfl)
    replace hS := SG.set (i := 6) (by decide) (by decide) hS
    try simp only [pL]
    refine wpG_t1 (i := 7) (v := ?v75) rfl (by kernel_rfl) (fun _ _ _ h => h) hS (Or.inl ⟨by rfl, ?hy75⟩) ?rest75
    case hy75 => (intro w' hw; obtain ⟨_, q1, q2⟩ := hw; have u0 := q1.cell; have u1 := q2.cell; go_simp; try with_reducible rfl)
    replace hS := SG.set (i := 7) (by decide) (by decide) hS
    try simp only [pL]
    refine wpG_t1 (i := 8) (v := ?v76) rfl (by kernel_rfl) (fun _ _ _ h => h) hS (Or.inl ⟨by rfl, ?hy76⟩) ?rest76
    case hy76 => (intro w' hw; obtain ⟨_, q1, q2⟩ := hw; have u0 := q1.cell; have u1 := q2.cell; go_simp; try with_reducible rfl)
    replace hS := SG.set (i := 8) (by decide) (by decide) hS
    try simp only [pL]
    clear hS
    have CM := Lib.hid (meant_any H1.out hx)
    refine wpG_ready (rs := [9]) (by kernel_rfl) (by simp) ?_
    refine RG.cons rfl rfl (fun K' hK => ?_) RG.nil
    go_simp
    refine CM.out.mono ?_
    rintro e W2 ⟨rfl, rfl⟩
    clear CM
    go_wp2_with fail
    refine hK.out _ _ ⟨trivial, fun _ => ⟨H1.out.row, HR.out⟩, fun _ => trivial⟩ (fun hS => ?_)
    clear hK K'
    try simp only [pL]
    clear hS
    have HH : MF W2 hb nh s.here := H1.out.mh
    have hmr := OK.out.means n.word
    have hsm := H1.out.sum
    obtain ⟨W3, hr, hm, hg⟩ := HH.put Tryz.underlying187 (by simp only [maxLen]; omega) (x := n.word) hx (v := s.means n.word) (wfI (by omega) (by omega))
    have FIN := Lib.hid (H1.out.here_put hm hg)
    have B3 := Lib.hid (show RowB W3 bx 38 _ from (hg.block _ HR.out.lt (fun e => by injection e with e; exact row_ne_map HR.out HH e.symm)).trans HR.out)
    clear hm hg HH hmr hsm
    refine wpG_ready (rs := [10]) (by kernel_rfl) (by simp) ?_
    refine RG.cons rfl rfl (fun K' hK => ?_) RG.nil
    refine wp_mapUpdate_run (.tmp 25) (.tmp 27) (.tmp 31) 187 (by rfl) (by rfl) (by rfl) (by rfl) hr ?_
    refine hK.out _ _ ⟨trivial, fun h => absurd (h : true = false) (by decide), fun _ => trivial⟩ (fun hS => ?_)
    clear hK K'
    try simp only [pL]
    clear hS hr
    refine wpG_done (by kernel_rfl) ?_ _
    go_wp2_with fail
    obtain ⟨s0, hs0⟩ : ∃ s0 : St, s0 = { s with here := up s.here n.word (some (s.means n.word)) } := ⟨_, rfl⟩
    rw [← hs0] at FIN
    have HS0 : Hid (s0 = bind0 n.at_ n.word s) := by unfold Hid bind0; rw [HQ.out]; exact hs0
    clear hs0
    have H1 := Lib.hid FIN.out.1
    have G1 := Lib.hid (G1.out.trans FIN.out.2)
    replace HR := B3
    clear FIN B3
    obtain ⟨W1, hW1⟩ : ∃ W1, W1 = W3 := ⟨_, rfl⟩
    rw [← hW1] at H1 G1 HR ⊢
    clear hW1
    obtain ⟨m1, hm1⟩ : ∃ m1, m1 = nm := ⟨_, rfl⟩
    obtain ⟨n1, hn1⟩ : ∃ n1, n1 = nh + 1 := ⟨_, rfl⟩
    obtain ⟨K1, hK1⟩ : ∃ K1, K1 = K := ⟨_, rfl⟩
    rw [← hm1, ← hn1, ← hK1] at H1
    conv at G1 => rw [show Gx K w K W1 = Gx K w K1 W1 from by rw [hK1]]
    obtain ⟨A1, c1, ha1, _⟩ := own_shape H1.out.o1
    subst ha1
    obtain ⟨gm, hgm, hgg⟩ := H1.out.mm
    replace hgm := Lib.hid hgm
    replace hgg := Lib.hid hgg
    refine wp_region_G (S := SG (fun _ => True) 12 (fun w' => RowB w' b 189 (wcc (.slice A1 s0.bs.length c1) v2 v3 v4 mb (some hb) s0.lam s0.item) ∧ RowB w' bx 38 #[.int .i64 n.kind, .int .i64 n.fro, .int .i64 n.til, .string n.word, .int .i64 n.at_, .slice A k c]) 99 (fun _ => True)) (by kernel_rfl) ⟨trivial, fun _ => ⟨H1.out.row, HR.out⟩, fun _ => trivial⟩ (fun hS => ?_)
    obtain ⟨WD, hWD⟩ : ∃ WD, WD = W1.drew := ⟨_, rfl⟩
    have H1 := Lib.hid (H1.out.drew)
    have G1 := Lib.hid (G1.out.trans (Gx.drew _ W1))
    replace HR := Lib.hid (show RowB W1.drew _ _ _ from HR.out)
    rw [← hWD] at hS H1 G1 HR ⊢
    have hWDh : Hid (WD.heap = W1.heap) := by rw [hWD]; rfl
    clear hWD
    replace hgm := Lib.hid (show MF WD mb m1 gm from hgm.out.of_block (by rw [hWDh.out]))
    refine wpG_t1 (i := 0) (v := ?v77) rfl (by kernel_rfl) (fun _ _ _ h => h) hS (Or.inl ⟨by rfl, ?hy77⟩) ?rest77
    case hy77 => (intro w' hw; obtain ⟨_, q1, q2⟩ := hw; have u0 := q1.cell; have u1 := q2.cell; go_simp; try with_reducible rfl)
    replace hS := SG.set (i := 0) (by decide) (by decide) hS
    try simp only [pL]
    refine wpG_t1 (i := 1) (v := ?v78) rfl (by kernel_rfl) (fun _ _ _ h => h) hS (Or.inl ⟨by rfl, ?hy78⟩) ?rest78
    case hy78 => (intro w' hw; obtain ⟨_, q1, q2⟩ := hw; have u0 := q1.cell; have u1 := q2.cell; go_simp; try with_reducible rfl)
    replace hS := SG.set (i := 1) (by decide) (by decide) hS
    try simp only [pL]
    refine wpG_t1 (i := 2) (v := ?v79) rfl (by kernel_rfl) (fun _ _ _ h => h) hS (Or.inl ⟨by rfl, ?hy79⟩) ?rest79
    case hy79 => (intro w' hw; obtain ⟨_, q1, q2⟩ := hw; have u0 := q1.cell; have u1 := q2.cell; go_simp; try with_reducible rfl)
    replace hS := SG.set (i := 2) (by decide) (by decide) hS
    try simp only [pL]
    refine wpG_t1 (i := 3) (v := ?v80) rfl (by kernel_rfl) (fun _ _ _ h => h) hS (Or.inl ⟨by rfl, ?hy80⟩) ?rest80
    case hy80 => (intro w' hw; obtain ⟨_, q1, q2⟩ := hw; have u0 := q1.cell; have u1 := q2.cell; go_simp; try with_reducible rfl)
    replace hS := SG.set (i := 3) (by decide) (by decide) hS
    try simp only [pL]
    refine wpG_t1 (i := 4) (v := ?v81) rfl (by kernel_rfl) (fun _ _ _ h => h) hS (Or.inl ⟨by rfl, ?hy81⟩) ?rest81
    case hy81 => (intro w' hw; obtain ⟨_, q1, q2⟩ := hw; have u0 := q1.cell; have u1 := q2.cell; go_simp; try with_reducible rfl)
    replace hS := SG.set (i := 4) (by decide) (by decide) hS
    try simp only [pL]
    refine wpG_t1 (i := 5) (v := ?v82) rfl (by kernel_rfl) (fun _ _ _ h => h) hS (Or.inl ⟨by rfl, ?hy82⟩) ?rest82
    case hy82 => (intro w' hw; obtain ⟨_, q1, q2⟩ := hw; have u0 := q1.cell; have u1 := q2.cell; go_simp; try with_reducible rfl)
    replace hS := SG.set (i := 5) (by decide) (by decide) hS
    try simp only [pL]
    refine wpG_t1 (i := 6) (v := ?v83) rfl (by kernel_rfl) (fun _ _ _ h => h) hS (Or.inl ⟨by rfl, ?hy83⟩) ?rest83
    case hy83 => (intro w' hw; obtain ⟨_, q1, q2⟩ := hw; have u0 := q1.cell; have u1 := q2.cell; go_simp; try with_reducible rfl)
    replace hS := SG.set (i := 6) (by decide) (by decide) hS
    try simp only [pL]
    refine wpG_t1 (i := 7) (v := ?v84) rfl (by kernel_rfl) (fun _ _ _ h => h) hS (Or.inl ⟨by rfl, ?hy84⟩) ?rest84
    case hy84 => (intro w' hw; obtain ⟨_, q1, q2⟩ := hw; have u0 := q1.cell; have u1 := q2.cell; go_simp; try with_reducible rfl)
    replace hS := SG.set (i := 7) (by decide) (by decide) hS
    try simp only [pL]
    refine wpG_t1 (i := 8) (v := ?v85) rfl (by kernel_rfl) (fun _ _ _ h => h) hS (Or.inl ⟨by rfl, ?hy85⟩) ?rest85
    case hy85 => (intro w' hw; obtain ⟨_, q1, q2⟩ := hw; have u0 := q1.cell; have u1 := q2.cell; go_simp; try with_reducible rfl)
    replace hS := SG.set (i := 8) (by decide) (by decide) hS
    try simp only [pL]
    refine wpG_t1 (i := 9) (v := ?v86) rfl (by kernel_rfl) (fun _ _ _ h => h) hS (Or.inl ⟨by rfl, ?hy86⟩) ?rest86
    case hy86 => (intro w' hw; obtain ⟨_, q1, q2⟩ := hw; have u0 := q1.cell; have u1 := q2.cell; go_simp; try with_reducible rfl)
    replace hS := SG.set (i := 9) (by decide) (by decide) hS
    try simp only [pL]
    refine wpG_t1 (i := 10) (v := ?v87) rfl (by kernel_rfl) (fun _ _ _ h => h) hS (Or.inl ⟨by rfl, ?hy87⟩) ?rest87
    case hy87 => (intro w' hw; obtain ⟨_, q1, q2⟩ := hw; have u0 := q1.cell; have u1 := q2.cell; go_simp; try with_reducible rfl)
    replace hS := SG.set (i := 10) (by decide) (by decide) hS
    try simp only [pL]
    refine wpG_t1 (i := 11) (v := ?v88) rfl (by kernel_rfl) (fun _ _ _ h => h) hS (Or.inl ⟨by rfl, ?hy88⟩) ?rest88
    case hy88 => (intro w' hw; obtain ⟨_, q1, q2⟩ := hw; have u0 := q1.cell; have u1 := q2.cell; go_simp; try with_reducible rfl)
    replace hS := SG.set (i := 11) (by decide) (by decide) hS
    try simp only [pL]
    clear hS
    obtain ⟨W3, hr, hm, hg⟩ := hgm.out.put Tryz.underlying186 (by have := H1.out.sum; simp only [maxLen]; omega) (x := n.word) hx (v := (s0.bs.length : Int)) (wfI (by omega) (by have := H1.out.sum; omega))
    have FIN := Lib.hid (H1.out.means_put (MM.put hgg.out hm) hg)
    have B3 := Lib.hid (show RowB W3 bx 38 _ from (hg.block _ HR.out.lt (fun e => by injection e with e; exact row_ne_map HR.out hgm.out e.symm)).trans HR.out)
    clear hm hg hgm hgg
    refine wpG_ready (rs := [12]) (by kernel_rfl) (by simp) ?_
    refine RG.cons rfl rfl (fun K' hK => ?_) RG.nil
    refine wp_mapUpdate_run (.tmp 35) (.tmp 37) (.tmp 43) 186 (by rfl) (by rfl) (by rfl) (by rfl) hr ?_
    refine hK.out _ _ ⟨trivial, fun h => absurd (h : true = false) (by decide), fun _ => trivial⟩ (fun hS => ?_)
    clear hK K'
    try simp only [pL]
    clear hS hr
    refine wpG_done (by kernel_rfl) ?_ _
    go_wp2_with fail
    obtain ⟨s1, hs1⟩ : ∃ s1 : St, s1 = { s0 with means := up s0.means n.word s0.bs.length } := ⟨_, rfl⟩
    rw [← hs1] at FIN
    have HS1 := Lib.hid hs1
    clear hs1
    have H1 := Lib.hid FIN.out.1
    have G1 := Lib.hid (G1.out.trans FIN.out.2)
    replace HR := B3
    clear FIN B3
    obtain ⟨W1, hW1⟩ : ∃ W1, W1 = W3 := ⟨_, rfl⟩
    rw [← hW1] at H1 G1 HR ⊢
    clear hW1
    refine wp_region_G (S := SG (fun _ => True) 13 (fun w' => RowB w' b 189 (wcc (.slice A1 s0.bs.length c1) v2 v3 v4 mb (some hb) s1.lam s1.item) ∧ RowB w' bx 38 #[.int .i64 n.kind, .int .i64 n.fro, .int .i64 n.til, .string n.word, .int .i64 n.at_, .slice A k c]) 99 (fun _ => True)) (by kernel_rfl) ⟨trivial, fun _ => ⟨H1.out.row, HR.out⟩, fun _ => trivial⟩ (fun hS => ?_)
    obtain ⟨WD, hWD⟩ : ∃ WD, WD = W1.drew := ⟨_, rfl⟩
    have H1 := Lib.hid (H1.out.drew)
    have G1 := Lib.hid (G1.out.trans (Gx.drew _ W1))
    replace HR := Lib.hid (show RowB W1.drew _ _ _ from HR.out)
    rw [← hWD] at hS H1 G1 HR ⊢
    have hWDh : Hid (WD.heap = W1.heap) := by rw [hWD]; rfl
    clear hWD
    refine wpG_t1 (i := 0) (v := ?v89) rfl (by kernel_rfl) (fun _ _ _ h => h) hS (Or.inl ⟨by rfl, ?hy89⟩) ?rest89
    case hy89 => (intro w' hw; obtain ⟨_, q1, q2⟩ := hw; have u0 := q1.cell; have u1 := q2.cell; go_simp; try with_reducible rfl)
    replace hS := SG.set (i := 0) (by decide) (by decide) hS
    try simp only [pL]
    refine wpG_t1 (i := 1) (v := ?v90) rfl (by kernel_rfl) (fun _ _ _ h => h) hS (Or.inl ⟨by rfl, ?hy90⟩) ?rest90
    case hy90 => (intro w' hw; obtain ⟨_, q1, q2⟩ := hw; have u0 := q1.cell; have u1 := q2.cell; go_simp; try with_reducible rfl)
    replace hS := SG.set (i := 1) (by decide) (by decide) hS
    try simp only [pL]
    refine wpG_t1 (i := 2) (v := ?v91) rfl (by kernel_rfl) (fun _ _ _ h => h) hS (Or.inl ⟨by rfl, ?hy91⟩) ?rest91
    case hy91 => (intro w' hw; obtain ⟨_, q1, q2⟩ := hw; have u0 := q1.cell; have u1 := q2.cell; go_simp; try with_reducible rfl)
    replace hS := SG.set (i := 2) (by decide) (by decide) hS
    try simp only [pL]
    refine wpG_t1 (i := 3) (v := ?v92) rfl (by kernel_rfl) (fun _ _ _ h => h) hS (Or.inl ⟨by rfl, ?hy92⟩) ?rest92
    case hy92 => (intro w' hw; obtain ⟨_, q1, q2⟩ := hw; have u0 := q1.cell; have u1 := q2.cell; go_simp; try with_reducible rfl)
    replace hS := SG.set (i := 3) (by decide) (by decide) hS
    try simp only [pL]
    refine wpG_t1 (i := 4) (v := ?v93) rfl (by kernel_rfl) (fun _ _ _ h => h) hS (Or.inl ⟨by rfl, ?hy93⟩) ?rest93
    case hy93 => (intro w' hw; obtain ⟨_, q1, q2⟩ := hw; have u0 := q1.cell; have u1 := q2.cell; go_simp; try with_reducible rfl)
    replace hS := SG.set (i := 4) (by decide) (by decide) hS
    try simp only [pL]
    refine wpG_t1 (i := 5) (v := ?v94) rfl (by kernel_rfl) (fun _ _ _ h => h) hS (Or.inl ⟨by rfl, ?hy94⟩) ?rest94
    case hy94 => (intro w' hw; obtain ⟨_, q1, q2⟩ := hw; have u0 := q1.cell; have u1 := q2.cell; go_simp; try with_reducible rfl)
    replace hS := SG.set (i := 5) (by decide) (by decide) hS
    try simp only [pL]
    refine wpG_t1 (i := 6) (v := ?v95) rfl (by kernel_rfl) (fun _ _ _ h => h) hS (Or.inl ⟨by rfl, ?hy95⟩) ?rest95
    case hy95 => (intro w' hw; obtain ⟨_, q1, q2⟩ := hw; have u0 := q1.cell; have u1 := q2.cell; go_simp; try with_reducible rfl)
    replace hS := SG.set (i := 6) (by decide) (by decide) hS
    try simp only [pL]
    refine wpG_t1 (i := 7) (v := ?v96) rfl (by kernel_rfl) (fun _ _ _ h => h) hS (Or.inl ⟨by rfl, ?hy96⟩) ?rest96
    case hy96 => (intro w' hw; obtain ⟨_, q1, q2⟩ := hw; have u0 := q1.cell; have u1 := q2.cell; go_simp; try with_reducible rfl)
    replace hS := SG.set (i := 7) (by decide) (by decide) hS
    try simp only [pL]
    refine wpG_t1 (i := 8) (v := ?v97) rfl (by kernel_rfl) (fun _ _ _ h => h) hS (Or.inl ⟨by rfl, ?hy97⟩) ?rest97
    case hy97 => (intro w' hw; obtain ⟨_, q1, q2⟩ := hw; have u0 := q1.cell; have u1 := q2.cell; go_simp; try with_reducible rfl)
    replace hS := SG.set (i := 8) (by decide) (by decide) hS
    try simp only [pL]
    clear hS
    have H2 := Lib.hid (H1.out.alloc (.cells #[.int .i64 s1.lam] 3))
    have G2 := Lib.hid (G1.out.trans (Gx.alloc _ WD (.cells #[.int .i64 s1.lam] 3)))
    have RN := Lib.hid (RowB.new WD 3 #[.int .i64 s1.lam])
    have HR2 := Lib.hid (HR.out.alloc (.cells #[.int .i64 s1.lam] 3))
    refine wpG_ready (rs := [9]) (by kernel_rfl) (by simp) ?_
    refine RG.cons rfl rfl (fun K' hK => ?_) RG.nil
    go_simp
    refine hK.out _ _ ⟨trivial, fun _ => ⟨H2.out.row, HR2.out⟩, fun _ => trivial⟩ (fun hS => ?_)
    clear hK K'
    try simp only [pL]
    clear hS
    obtain ⟨W2, hW2⟩ : ∃ W2, W2 = WD.alloc (.cells #[.int .i64 s1.lam] 3) := ⟨_, rfl⟩
    rw [← hW2] at H2 G2 RN HR2 ⊢
    obtain ⟨v', W3, hr, ho, hg, hl⟩ := app_at (w := W2) (t := 154) (e := 3) (size := 1) (bytes := 8) (z := .int .i64 0) Tryz.underlying154 (by kernel_rfl) rfl (by decide) (by decide) B v4 _ _ H2.out.o4 _ _ RN.out rfl (by intro u hu; simp at hu; subst hu; rfl) (by have := H2.out.sum; omega) (by have := (H2.out.lt _ H2.out.kb); simp only at this; omega) 154
    have r3 : RowB W3 b 189 (wcc (.slice A1 s0.bs.length c1) v2 v3 v4 mb (some hb) s1.lam s1.item) := (hg.block _ H2.out.row.lt (fun e => own_ne_row H2.out.o4 H2.out.row (by decide) e.symm)).trans H2.out.row
    have b3 : RowB W3 bx 38 #[.int .i64 n.kind, .int .i64 n.fro, .int .i64 n.til, .string n.word, .int .i64 n.at_, .slice A k c] := (hg.block _ HR2.out.lt (fun e => own_ne_row H2.out.o4 HR2.out (by decide) e.symm)).trans HR2.out
    have FIN := Lib.hid (H2.out.app4 (x := s1.lam) ho hg hl)
    obtain ⟨A', c', rfl, _⟩ := own_shape ho
    have R3 := Lib.hid r3
    have B3 := Lib.hid b3
    clear ho hg hl r3 b3 hW2 H2 HR2 RN
    refine wpG_ready (rs := [10]) (by kernel_rfl) (by simp) ?_
    refine RG.cons rfl rfl (fun K' hK => ?_) RG.nil
    refine wp_append_run (.tmp 48) (.tmp 53) 154 (by rfl) (by rfl) (by rfl) hr ?_
    refine hK.out _ _ ⟨trivial, fun _ => ⟨R3.out, B3.out⟩, fun _ => trivial⟩ (fun hS => ?_)
    clear hK K'
    try simp only [pL]
    clear hr
    refine wpG_t0 (i := 11) (v := ?v98) rfl (by kernel_rfl) (fun _ _ _ h => h) hS (Or.inl ⟨by rfl, ?hy98⟩) ?rest98
    case hy98 => (intro w' hw; go_simp; try with_reducible rfl)
    replace hS := SG.set (i := 11) (by decide) (by decide) hS
    try simp only [pL]
    refine wpG_t0 (i := 12) (v := ?v99) rfl (by kernel_rfl) (fun _ _ _ h => h) hS (Or.inl ⟨by rfl, ?hy99⟩) ?rest99
    case hy99 => (intro w' hw; go_simp; try with_reducible rfl)
    replace hS := SG.set (i := 12) (by decide) (by decide) hS
    try simp only [pL]
    clear hS
    have yc := R3.out.cell
    have yt := R3.out.thaw
    refine wpG_ready (rs := [13]) (by kernel_rfl) (by simp) ?_
    refine RG.cons rfl rfl (fun K' hK => ?_) RG.nil
    go_simp
    refine hK.out _ _ ⟨trivial, fun h => absurd (h : true = false) (by decide), fun _ => trivial⟩ (fun hS => ?_)
    clear hK K'
    try simp only [pL]
    clear hS yc yt R3
    refine wpG_done (by kernel_rfl) ?_ _
    go_wp2_with fail
    obtain ⟨s2, hs2⟩ : ∃ s2 : St, s2 = { s1 with within := s1.within ++ [s1.lam] } := ⟨_, rfl⟩
    rw [← hs2] at FIN
    have HS2 := Lib.hid hs2
    clear hs2
    have H1 := Lib.hid FIN.out.1
    have G1 := Lib.hid (G2.out.trans FIN.out.2)
    have HR := Lib.hid (B3.out.far (p := ⟨b, 6, none⟩) HNE.out (.slice A' (s1.within.length + 1) c'))
    clear FIN B3 G2
    obtain ⟨W1, hW1⟩ : ∃ W1, W1 = W3.setCell ⟨b, 6, none⟩ (.slice A' (s1.within.length + 1) c') := ⟨_, rfl⟩
    rw [← hW1] at H1 G1 HR ⊢
    clear hW1
    obtain ⟨v4', hv4'⟩ : ∃ v4', v4' = Value.slice A' (s1.within.length + 1) c' := ⟨_, rfl⟩
    rw [← hv4'] at H1 G1
    clear hv4'
    refine wp_region_G (S := SG (fun _ => True) 21 (fun w' => RowB w' b 189 (wcc (.slice A1 s0.bs.length c1) v2 v3 v4' mb (some hb) s2.lam s2.item) ∧ RowB w' bx 38 #[.int .i64 n.kind, .int .i64 n.fro, .int .i64 n.til, .string n.word, .int .i64 n.at_, .slice A k c]) 99 (fun _ => True)) (by kernel_rfl) ⟨trivial, fun _ => ⟨H1.out.row, HR.out⟩, fun _ => trivial⟩ (fun hS => ?_)
    obtain ⟨WD, hWD⟩ : ∃ WD, WD = W1.drew := ⟨_, rfl⟩
    have H1 := Lib.hid (H1.out.drew)
    have G1 := Lib.hid (G1.out.trans (Gx.drew _ W1))
    replace HR := Lib.hid (show RowB W1.drew _ _ _ from HR.out)
    rw [← hWD] at hS H1 G1 HR ⊢
    have hWDh : Hid (WD.heap = W1.heap) := by rw [hWD]; rfl
    clear hWD
    refine wpG_t1 (i := 0) (v := ?v100) rfl (by kernel_rfl) (fun _ _ _ h => h) hS (Or.inl ⟨by rfl, ?hy100⟩) ?rest100
    case hy100 => (intro w' hw; obtain ⟨_, q1, q2⟩ := hw; have u0 := q1.cell; have u1 := q2.cell; go_simp; try with_reducible rfl)
    replace hS := SG.set (i := 0) (by decide) (by decide) hS
    try simp only [pL]
    refine wpG_t1 (i := 1) (v := ?v101) rfl (by kernel_rfl) (fun _ _ _ h => h) hS (Or.inl ⟨by rfl, ?hy101⟩) ?rest101
    case hy101 => (intro w' hw; obtain ⟨_, q1, q2⟩ := hw; have u0 := q1.cell; have u1 := q2.cell; go_simp; try with_reducible rfl)
    replace hS := SG.set (i := 1) (by decide) (by decide) hS
    try simp only [pL]
    refine wpG_t1 (i := 2) (v := ?v102) rfl (by kernel_rfl) (fun _ _ _ h => h) hS (Or.inl ⟨by rfl, ?hy102⟩) ?rest102
    case hy102 => (intro w' hw; obtain ⟨_, q1, q2⟩ := hw; have u0 := q1.cell; have u1 := q2.cell; go_simp; try with_reducible rfl)
    replace hS := SG.set (i := 2) (by decide) (by decide) hS
    try simp only [pL]
    refine wpG_t1 (i := 3) (v := ?v103) rfl (by kernel_rfl) (fun _ _ _ h => h) hS (Or.inl ⟨by rfl, ?hy103⟩) ?rest103
    case hy103 => (intro w' hw; obtain ⟨_, q1, q2⟩ := hw; have u0 := q1.cell; have u1 := q2.cell; go_simp; try with_reducible rfl)
    replace hS := SG.set (i := 3) (by decide) (by decide) hS
    try simp only [pL]
    refine wpG_t1 (i := 4) (v := ?v104) rfl (by kernel_rfl) (fun _ _ _ h => h) hS (Or.inl ⟨by rfl, ?hy104⟩) ?rest104
    case hy104 => (intro w' hw; obtain ⟨_, q1, q2⟩ := hw; have u0 := q1.cell; have u1 := q2.cell; go_simp; try with_reducible rfl)
    replace hS := SG.set (i := 4) (by decide) (by decide) hS
    try simp only [pL]
    refine wpG_t1 (i := 5) (v := ?v105) rfl (by kernel_rfl) (fun _ _ _ h => h) hS (Or.inl ⟨by rfl, ?hy105⟩) ?rest105
    case hy105 => (intro w' hw; obtain ⟨_, q1, q2⟩ := hw; have u0 := q1.cell; have u1 := q2.cell; go_simp; try with_reducible rfl)
    replace hS := SG.set (i := 5) (by decide) (by decide) hS
    try simp only [pL]
    refine wpG_t1 (i := 6) (v := ?v106) rfl (by kernel_rfl) (fun _ _ _ h => h) hS (Or.inl ⟨by rfl, ?hy106⟩) ?rest106
    case hy106 => (intro w' hw; obtain ⟨_, q1, q2⟩ := hw; have u0 := q1.cell; have u1 := q2.cell; go_simp; try with_reducible rfl)
    replace hS := SG.set (i := 6) (by decide) (by decide) hS
    try simp only [pL]
    refine wpG_t1 (i := 7) (v := ?v107) rfl (by kernel_rfl) (fun _ _ _ h => h) hS (Or.inl ⟨by rfl, ?hy107⟩) ?rest107
    case hy107 => (intro w' hw; obtain ⟨_, q1, q2⟩ := hw; have u0 := q1.cell; have u1 := q2.cell; go_simp; try with_reducible rfl)
    replace hS := SG.set (i := 7) (by decide) (by decide) hS
    try simp only [pL]
    refine wpG_t1 (i := 8) (v := ?v108) rfl (by kernel_rfl) (fun _ _ _ h => h) hS (Or.inl ⟨by rfl, ?hy108⟩) ?rest108
    case hy108 => (intro w' hw; obtain ⟨_, q1, q2⟩ := hw; have u0 := q1.cell; have u1 := q2.cell; go_simp; try with_reducible rfl)
    replace hS := SG.set (i := 8) (by decide) (by decide) hS
    try simp only [pL]
    refine wpG_t1 (i := 9) (v := ?v109) rfl (by kernel_rfl) (fun _ _ _ h => h) hS (Or.inl ⟨by rfl, ?hy109⟩) ?rest109
    case hy109 => (intro w' hw; obtain ⟨_, q1, q2⟩ := hw; have u0 := q1.cell; have u1 := q2.cell; go_simp; try with_reducible rfl)
    replace hS := SG.set (i := 9) (by decide) (by decide) hS
    try simp only [pL]
    refine wpG_t1 (i := 10) (v := ?v110) rfl (by kernel_rfl) (fun _ _ _ h => h) hS (Or.inl ⟨by rfl, ?hy110⟩) ?rest110
    case hy110 => (intro w' hw; obtain ⟨_, q1, q2⟩ := hw; have u0 := q1.cell; have u1 := q2.cell; go_simp; try with_reducible rfl)
    replace hS := SG.set (i := 10) (by decide) (by decide) hS
    try simp only [pL]
    refine wpG_t1 (i := 11) (v := ?v111) rfl (by kernel_rfl) (fun _ _ _ h => h) hS (Or.inl ⟨by rfl, ?hy111⟩) ?rest111
    case hy111 => (intro w' hw; obtain ⟨_, q1, q2⟩ := hw; have u0 := q1.cell; have u1 := q2.cell; go_simp; try with_reducible rfl)
    replace hS := SG.set (i := 11) (by decide) (by decide) hS
    try simp only [pL]
    refine wpG_t1 (i := 12) (v := ?v112) rfl (by kernel_rfl) (fun _ _ _ h => h) hS (Or.inl ⟨by rfl, ?hy112⟩) ?rest112
    case hy112 => (intro w' hw; obtain ⟨_, q1, q2⟩ := hw; have u0 := q1.cell; have u1 := q2.cell; go_simp; try with_reducible rfl)
    replace hS := SG.set (i := 12) (by decide) (by decide) hS
    try simp only [pL]
    refine wpG_t1 (i := 13) (v := ?v113) rfl (by kernel_rfl) (fun _ _ _ h => h) hS (Or.inl ⟨by rfl, ?hy113⟩) ?rest113
    case hy113 => (intro w' hw; obtain ⟨_, q1, q2⟩ := hw; have u0 := q1.cell; have u1 := q2.cell; go_simp; try with_reducible rfl)
    replace hS := SG.set (i := 13) (by decide) (by decide) hS
    try simp only [pL]
    refine wpG_t1 (i := 14) (v := ?v114) rfl (by kernel_rfl) (fun _ _ _ h => h) hS (Or.inl ⟨by rfl, ?hy114⟩) ?rest114
    case hy114 => (intro w' hw; obtain ⟨_, q1, q2⟩ := hw; have u0 := q1.cell; have u1 := q2.cell; go_simp; try with_reducible rfl)
    replace hS := SG.set (i := 14) (by decide) (by decide) hS
    try simp only [pL]
    refine wpG_t1 (i := 15) (v := ?v115) rfl (by kernel_rfl) (fun _ _ _ h => h) hS (Or.inl ⟨by rfl, ?hy115⟩) ?rest115
    case hy115 => (intro w' hw; obtain ⟨_, q1, q2⟩ := hw; have u0 := q1.cell; have u1 := q2.cell; go_simp; try with_reducible rfl)
    replace hS := SG.set (i := 15) (by decide) (by decide) hS
    try simp only [pL]
    clear hS
    have H2 := Lib.hid (H1.out.alloc (.cells #[.int .i64 n.at_, .int .i64 kd, .string n.word, .int .i64 s2.item] 60))
    have G2 := Lib.hid (G1.out.trans (Gx.alloc _ WD (.cells #[.int .i64 n.at_, .int .i64 kd, .string n.word, .int .i64 s2.item] 60)))
    have RN := Lib.hid (RowB.new WD 60 #[.int .i64 n.at_, .int .i64 kd, .string n.word, .int .i64 s2.item])
    have HR2 := Lib.hid (HR.out.alloc (.cells #[.int .i64 n.at_, .int .i64 kd, .string n.word, .int .i64 s2.item] 60))
    refine wpG_ready (rs := [16]) (by kernel_rfl) (by simp) ?_
    refine RG.cons rfl rfl (fun K' hK => ?_) RG.nil
    go_simp
    refine hK.out _ _ ⟨trivial, fun _ => ⟨H2.out.row, HR2.out⟩, fun _ => trivial⟩ (fun hS => ?_)
    clear hK K'
    try simp only [pL]
    clear hS
    obtain ⟨W2, hW2⟩ : ∃ W2, W2 = WD.alloc (.cells #[.int .i64 n.at_, .int .i64 kd, .string n.word, .int .i64 s2.item] 60) := ⟨_, rfl⟩
    rw [← hW2] at H2 G2 RN HR2 ⊢
    obtain ⟨v', W3, hr, ho, hg, hl⟩ := app_at (w := W2) (t := 46) (e := 60) (size := 4) (bytes := 40) (z := .agg #[.int .i64 0, .int .i64 0, .string ⟨#[]⟩, .int .i64 0]) Tryz.underlying46 (by kernel_rfl) rfl (by decide) (by decide) B (.slice A1 s0.bs.length c1) _ _ H2.out.o1 _ _ RN.out rfl (by intro u hu; simp at hu; rcases hu with rfl | rfl | rfl | rfl <;> rfl) (by have := H2.out.sum; omega) (by have := (H2.out.lt _ H2.out.kb); simp only at this; omega) 46
    have r3 : RowB W3 b 189 (wcc (.slice A1 s0.bs.length c1) v2 v3 v4' mb (some hb) s2.lam s2.item) := (hg.block _ H2.out.row.lt (fun e => own_ne_row H2.out.o1 H2.out.row (by decide) e.symm)).trans H2.out.row
    have b3 : RowB W3 bx 38 #[.int .i64 n.kind, .int .i64 n.fro, .int .i64 n.til, .string n.word, .int .i64 n.at_, .slice A k c] := (hg.block _ HR2.out.lt (fun e => own_ne_row H2.out.o1 HR2.out (by decide) e.symm)).trans HR2.out
    have FIN := Lib.hid (H2.out.app1 (x := ⟨n.at_, kd, n.word, s2.item⟩) ho hg hl)
    obtain ⟨A', c', rfl, _⟩ := own_shape ho
    have R3 := Lib.hid r3
    have B3 := Lib.hid b3
    clear ho hg hl r3 b3 hW2 H2 HR2 RN
    refine wpG_ready (rs := [17]) (by kernel_rfl) (by simp) ?_
    refine RG.cons rfl rfl (fun K' hK => ?_) RG.nil
    refine wp_append_run (.tmp 62) (.tmp 73) 46 (by rfl) (by rfl) (by rfl) hr ?_
    refine hK.out _ _ ⟨trivial, fun _ => ⟨R3.out, B3.out⟩, fun _ => trivial⟩ (fun hS => ?_)
    clear hK K'
    try simp only [pL]
    clear hr
    refine wpG_t0 (i := 18) (v := ?v116) rfl (by kernel_rfl) (fun _ _ _ h => h) hS (Or.inl ⟨by rfl, ?hy116⟩) ?rest116
    case hy116 => (intro w' hw; go_simp; try with_reducible rfl)
    replace hS := SG.set (i := 18) (by decide) (by decide) hS
    try simp only [pL]
    refine wpG_t0 (i := 19) (v := ?v117) rfl (by kernel_rfl) (fun _ _ _ h => h) hS (Or.inl ⟨by rfl, ?hy117⟩) ?rest117
    case hy117 => (intro w' hw; go_simp; try with_reducible rfl)
    replace hS := SG.set (i := 19) (by decide) (by decide) hS
    try simp only [pL]
    refine wpG_t0 (i := 20) (v := ?v118) rfl (by kernel_rfl) (fun _ _ _ h => h) hS (Or.inl ⟨by rfl, ?hy118⟩) ?rest118
    case hy118 => (intro w' hw; go_simp; try with_reducible rfl)
    replace hS := SG.set (i := 20) (by decide) (by decide) hS
    try simp only [pL]
    clear hS
    have yc := R3.out.cell
    have yt := R3.out.thaw
    refine wpG_ready (rs := [21]) (by kernel_rfl) (by simp) ?_
    refine RG.cons rfl rfl (fun K' hK => ?_) RG.nil
    go_simp
    refine hK.out _ _ ⟨trivial, fun h => absurd (h : true = false) (by decide), fun _ => trivial⟩ (fun hS => ?_)
    clear hK K'
    try simp only [pL]
    clear hS yc yt R3
    refine wpG_done (by kernel_rfl) ?_ _
    go_end0
    have FE := (FIN.out.1).mono (N' := N + 4) (by omega)
    rw [bind_eq n.at_ n.word kd s s0 s1 s2 _ HS0.out HS1.out HS2.out rfl] at FE
    exact ⟨rfl, _, ⟨_, _, _, _, _, _, FE⟩, G2.out.trans FIN.out.2⟩
end Sc
end Go.Proofs.YthjflofcgdfekaaGreatDoor
