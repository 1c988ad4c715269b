import Derived.Test.YtnefnnoleeeedaaMAO
import Derived.Deep.CutRange
import Derived.Deep.LoopGhost
namespace Go.Proofs.Ytnefnnoleeeedaa
open Go.RowKit Go.Op
namespace Sc
open Vm
open Sb
theorem mr_far {R : Rm} {L : List Nm} {a : Int} {wd : ByteArray} {wb : Bool} {t : Nat} {f : Int} (hl : look R.bs wd L 0 = ((t : Int), f)) (hk : 3 ≤ kindOf R.bs t) : mentionR a wd wb (R, L) = ⟨R.bs, R.ms ++ [⟨a, t, wb, f⟩], R.bad⟩ := by
  unfold mentionR; dsimp only; rw [hl]; dsimp only; rw [if_neg (by omega), Int.toNat_natCast, if_pos hk]
theorem mr_set {R : Rm} {L : List Nm} {a : Int} {wd : ByteArray} {t : Nat} {f : Int} (hl : look R.bs wd L 0 = ((t : Int), f)) (hk : ¬ 3 ≤ kindOf R.bs t) : mentionR a wd true (R, L) = ⟨R.bs, R.ms ++ [⟨a, t, true, 0⟩], R.bad ++ [(a, 35)]⟩ := by
  unfold mentionR; dsimp only; rw [hl]; dsimp only; rw [if_neg (by omega), Int.toNat_natCast, if_neg hk, if_pos rfl]
theorem mr_get {R : Rm} {L : List Nm} {a : Int} {wd : ByteArray} {t : Nat} {f : Int} (hl : look R.bs wd L 0 = ((t : Int), f)) (hk : ¬ 3 ≤ kindOf R.bs t) : mentionR a wd false (R, L) = ⟨R.bs, R.ms ++ [⟨a, t, false, 0⟩], R.bad⟩ := by
  unfold mentionR; dsimp only; rw [hl]; dsimp only; rw [if_neg (by omega), Int.toNat_natCast, if_neg hk, if_neg (by simp)]
set_option maxHeartbeats 40000000 in
set_option maxRecDepth 100000 in
theorem mentionr_any {b B : Nat} {w : World} {K : Nat → Prop} {R : Rm} {N : Nat} {v1 v2 v3 : Value} (h : Mr b B w K R N v1 v2 v3) {lo : Nat} {AL : Option Addr} {cL : Nat} {L : List Nm} (hl : NK w K lo AL cL L) (hn : L.length ≤ 10000000) (wn : List Int) (hw : Wi wn R.bs.length L) (n : Hi) (A : Option Addr) (k c : Nat) (wb : Bool) (hN : N ≤ 100000000) :
    Calls Try.prog 70 #[.pointer (some ⟨b, 0, none⟩), .slice AL L.length cL, hvv n A k c, .bool wb] w fun e w' => e = .returned (.tuple #[]) ∧ ∃ K' v1' v2' v3', Mr b B w' K' (mentionR n.at_ n.word wb (R, L)) (N + 2) v1' v2' v3' ∧ Gx K w K' w' := by
  have H0 := h.alloc (.cells (hcc n A k c) 25)
  have H1 := Lib.hid (H0.alloc (.cells #[.int .i64 n.at_, .int .i64 (-1), .bool wb, .int .i64 0] 65))
  have G1 := Lib.hid ((Gx.alloc K w (.cells (hcc n A k c) 25)).trans (Gx.alloc K _ (.cells #[.int .i64 n.at_, .int .i64 (-1), .bool wb, .int .i64 0] 65)))
  have HR := Lib.hid ((RowB.new w 25 (hcc n A k c)).alloc (.cells #[.int .i64 n.at_, .int .i64 (-1), .bool wb, .int .i64 0] 65))
  have HU := Lib.hid (RowB.new (w.alloc (.cells (hcc n A k c) 25)) 65 #[.int .i64 n.at_, .int .i64 (-1), .bool wb, .int .i64 0])
  have HUB0 := H0.inv
  have hs1 : (w.alloc (.cells (hcc n A k c) 25)).heap.size = w.heap.size + 1 := by simp
  rw [hs1] at HU HUB0
  have HUB := Lib.hid HUB0
  have HUS : Hid (w.heap.size + 1 < ((w.alloc (.cells (hcc n A k c) 25)).alloc (.cells #[.int .i64 n.at_, .int .i64 (-1), .bool wb, .int .i64 0] 65)).heap.size) := by unfold Hid; simp
  have HNK0 := Lib.hid hl
  have HW := Lib.hid hw
  obtain ⟨n0, hn0⟩ : ∃ n0, n0 = L.length := ⟨_, rfl⟩
  have HN0 := Lib.hid hn0
  rw [← hn0] at hn ⊢
  simp only [hcc] at *
  clear h hl hw hn0 H0 HUB0 hs1
  have ek0 : IntKind.i64.wrap ((n0 : Int) - 1) = (n0 : Int) - 1 := by rw [IntKind.wrap_i64]; omega
  go_enter Try.func70, Try.ntmps70
  go_wp2_with fail
  obtain ⟨W1, hW1⟩ : ∃ W1, W1 = (w.alloc (.cells #[.int .i64 n.kind, .int .i64 n.fro, .int .i64 n.til, .string n.word, .int .i64 n.at_, .slice A k c] 25)).alloc (.cells #[.int .i64 n.at_, .int .i64 (-1), .bool wb, .int .i64 0] 65) := ⟨_, rfl⟩
  rw [← hW1] at H1 G1 HR HU HUS ⊢
  clear hW1
  obtain ⟨bx, hbx⟩ : ∃ bx, bx = w.heap.size := ⟨_, rfl⟩
  rw [← hbx] at HR HU HUB HUS ⊢
  have HBX := Lib.hid hbx
  clear hbx
  obtain ⟨bu, hbu⟩ : ∃ bu, bu = bx + 1 := ⟨_, rfl⟩
  rw [← hbu] at HU HUB HUS ⊢
  have HBU := Lib.hid hbu
  clear hbu
  go_loopg [9, 10] (n0 + 1) (fun kx s9 s10 W1 => ∃ (p : Nat) (f : Int), s9 = .int .i64 f ∧ s10 = .int .i64 ((n0 : Int) - 1 - (p : Int)) ∧ n0 - p ≤ kx ∧ p ≤ n0 ∧ 0 ≤ f ∧ f ≤ p ∧ Hid (Mr b B W1 K R N v1 v2 v3) ∧ Hid (Gx K w K W1) ∧ Hid (RowB W1 bx 25 #[.int .i64 n.kind, .int .i64 n.fro, .int .i64 n.til, .string n.word, .int .i64 n.at_, .slice A k c]) ∧ Hid (RowB W1 bu 65 #[.int .i64 n.at_, .int .i64 (-1), .bool wb, .int .i64 0]) ∧ Hid (look R.bs n.word L 0 = look R.bs n.word (L.drop p) f))
  case atStart => exact ⟨0, 0, rfl, by simp, by omega, by omega, by omega, by omega, H1.out, G1.out, HR.out, HU.out, by rw [List.drop_zero]; rfl⟩
  case round =>
    clear H1 G1 HR HU HUS
    obtain ⟨p, f, rfl, rfl, hkx, hpn, hf0, hf1, H1, G1, HR, HU, HD⟩ := hrel
    obtain ⟨W1, hW1⟩ : ∃ W1, W1 = wr := ⟨_, rfl⟩
    rw [← hW1] at H1 G1 HR HU ⊢
    clear hW1
    have HUS := Lib.hid HU.out.lt
    by_cases hp : p < n0
    · obtain ⟨y, hy⟩ : ∃ y, L[p]? = some y := ⟨L[p]'(by rw [← HN0.out]; exact hp), List.getElem?_eq_getElem _⟩
      obtain ⟨q, hq⟩ : ∃ q : Nat, q = n0 - 1 - p := ⟨_, rfl⟩
      have hqi : (n0 : Int) - 1 - (p : Int) = (q : Int) := by omega
      rw [hqi]
      have hql : (q : Int) < (n0 : Int) := by omega
      have hrev : L.reverse[q]? = some y := by
        have hln := HN0.out
        rw [List.getElem?_reverse (by omega), show L.length - 1 - q = p by omega]
        exact hy
      obtain ⟨gl, eA, _, hgl, hcl⟩ := (HNK0.out.gx G1.out).1.1 (by rw [List.length_reverse, ← HN0.out]; omega)
      subst eA
      have z0 : W1.cell? ⟨gl, q * 3, none⟩ = some (.int .i64 (y.tgt : Int)) := hcl q y hrev 0 _ rfl
      have z1 : W1.cell? ⟨gl, q * 3 + 1, none⟩ = some (.bool y.begins) := hcl q y hrev 1 _ rfl
      have z2 : W1.cell? ⟨gl, q * 3 + 2, none⟩ = some (.bool y.lambda) := hcl q y hrev 2 _ rfl
      have hdd : look R.bs n.word (L.drop p) f = if y.begins = true then look R.bs n.word (L.drop (p + 1)) (if y.lambda = true then f + 1 else f) else if wordOf R.bs y.tgt = n.word then ((y.tgt : Int), f) else look R.bs n.word (L.drop (p + 1)) f := by
        obtain ⟨hp', rfl⟩ := List.getElem?_eq_some_iff.1 hy
        rw [List.drop_eq_getElem_cons hp', look]
      obtain ⟨ytg, yb, yl⟩ := y
      simp only at z0 z1 z2 hdd
      have hg0 : decide ((0 : Int) ≤ (q : Int)) = true := decide_eq_true (by omega)
      have HQ := Lib.hid hq
      obtain ⟨p1, hp1⟩ : ∃ p1, p1 = p + 1 := ⟨_, rfl⟩
      have ekq : IntKind.i64.wrap ((q : Int) - 1) = (n0 : Int) - 1 - (p1 : Int) := by rw [IntKind.wrap_i64]; omega
      rw [← hp1] at hdd
      have HP1 := Lib.hid hp1
      have hf2 : f ≤ (p1 : Int) ∧ f + 1 ≤ (p1 : Int) := by omega
      have HF2 := Lib.hid hf2
      clear hq hqi hp1 hf2
      cases yb with
      | true =>
        rw [if_pos rfl] at hdd
        cases yl with
        | true =>
          rw [if_pos rfl] at hdd
          have HD2 : Hid (look R.bs n.word L 0 = look R.bs n.word (L.drop p1) (f + 1)) := HD.out.trans hdd
          have ekf : IntKind.i64.wrap (f + 1) = f + 1 := by rw [IntKind.wrap_i64]; omega
          clear hdd HD hy hrev hcl
          go_wp2_with fail
          have hp1 := HP1.out
          have hf2 := HF2.out
          go_roundg (n0 - p1)
          case measure => omega
          case rel => exact ⟨p1, f + 1, rfl, rfl, by omega, by omega, by omega, by omega, H1.out, G1.out, HR.out, HU.out, HD2.out⟩
        | false =>
          rw [if_neg (by simp)] at hdd
          have HD2 : Hid (look R.bs n.word L 0 = look R.bs n.word (L.drop p1) f) := HD.out.trans hdd
          clear hdd HD hy hrev hcl
          go_wp2_with fail
          have hp1 := HP1.out
          have hf2 := HF2.out
          go_roundg (n0 - p1)
          case measure => omega
          case rel => exact ⟨p1, f, rfl, rfl, by omega, by omega, by omega, by omega, H1.out, G1.out, HR.out, HU.out, HD2.out⟩
      | false =>
        rw [if_neg (by simp)] at hdd
        have hyt : ytg < R.bs.length := wi_get HW.out hy rfl
        obtain ⟨z, hz⟩ : ∃ z, R.bs[ytg]? = some z := ⟨R.bs[ytg], List.getElem?_eq_getElem hyt⟩
        have hwz : wordOf R.bs ytg = z.word := by unfold wordOf; rw [hz]; rfl
        have hkz : kindOf R.bs ytg = z.kind := by unfold kindOf; rw [hz]; rfl
        rw [hwz] at hdd
        obtain ⟨g1, c1, hv1, hc1, hg1, hob1, hcell⟩ := row_get H1.out.o1 (fun _ => rfl) hz rfl
        subst hv1
        have d2 : W1.cell? ⟨g1, ytg * 4 + 2, none⟩ = some (.string z.word) := hcell 2 _ rfl
        have d1 : W1.cell? ⟨g1, ytg * 4 + 1, none⟩ = some (.int .i64 z.kind) := hcell 1 _ rfl
        obtain ⟨zw, hzw⟩ : ∃ zw, zw = z.word := ⟨_, rfl⟩
        obtain ⟨zk, hzk⟩ : ∃ zk, zk = z.kind := ⟨_, rfl⟩
        rw [← hzw] at d2 hdd
        rw [← hzk] at d1 hkz
        have HKZ := Lib.hid hkz
        have hg1n : g1 ≠ bu := fun e => HUB.out (by rw [← e]; exact H1.out.k1 g1 hob1)
        have HGN := Lib.hid hg1n
        have hgln : gl ≠ bu := fun e => by
          obtain ⟨g', e2, _, h2, _⟩ := HNK0.out.1.1 (by rw [List.length_reverse, ← HN0.out]; omega)
          injection e2 with e2
          injection e2 with e2
          have := HBX.out
          have := HBU.out
          omega
        have hyl : (ytg : Int) < (R.bs.length : Int) := by omega
        obtain ⟨be, hbe⟩ : ∃ be, be = (zw.toList == n.word.toList) := ⟨_, rfl⟩
        have hbe2 : be = true ↔ zw = n.word := by rw [hbe, beq_iff_eq]; exact bl_iff
        have HBE := Lib.hid hbe2
        have HEQ := Lib.hid hbe.symm
        have HDD := Lib.hid hdd
        clear hdd hbe hbe2 hzw hwz hz hcell hob1 hc1 hy hrev hcl hzk hkz hg1n hgln
        go_wp2_with fail
        refine wp_region_G (S := SG (fun w' => RowB w' b 40 #[.slice (some ⟨g1, 0, none⟩) R.bs.length c1, v2, v3] ∧ RowB w' bx 25 #[.int .i64 n.kind, .int .i64 n.fro, .int .i64 n.til, .string n.word, .int .i64 n.at_, .slice A k c] ∧ w'.cell? ⟨gl, q * 3, none⟩ = some (.int .i64 (ytg : Int)) ∧ w'.cell? ⟨g1, ytg * 4 + 2, none⟩ = some (.string zw)) 98 (fun _ => True) 99 (fun _ => True)) (by kernel_rfl) ⟨⟨H1.out.row, HR.out, z0, d2⟩, fun _ => trivial, fun _ => trivial⟩ (fun hS => ?_)
        obtain ⟨WD, hWD⟩ : ∃ WD, WD = W1.drew := ⟨_, rfl⟩
        have H1 := Lib.hid (H1.out.drew)
        have G1 := Lib.hid (G1.out.trans (Gx.drew _ W1))
        replace HR := Lib.hid (show RowB W1.drew _ _ _ from HR.out)
        replace HU := Lib.hid (show RowB W1.drew _ _ _ from HU.out)
        have y0 : W1.drew.cell? ⟨gl, q * 3, none⟩ = some (.int .i64 (ytg : Int)) := z0
        have y1 : W1.drew.cell? ⟨g1, ytg * 4 + 1, none⟩ = some (.int .i64 zk) := d1
        have HUS := Lib.hid HU.out.lt
        rw [← hWD] at hS H1 G1 HR HU y0 y1 HUS ⊢
        clear hWD z0 z1 z2 d2 d1
        refine wpG_t0 (i := 0) (v := ?v19) rfl (by kernel_rfl) (fun _ _ _ h => h) hS (Or.inl ⟨by rfl, ?hy19⟩) ?rest19
        case hy19 => (intro w' hw; obtain ⟨q1, q2, q3, q4⟩ := hw; have u0 := q1.cell; have u1 := q2.cell; go_simp; try with_reducible rfl)
        replace hS := SG.set (i := 0) (by decide) (by decide) hS
        try simp only [pL]
        refine wpG_t0 (i := 1) (v := ?v20) rfl (by kernel_rfl) (fun _ _ _ h => h) hS (Or.inl ⟨by rfl, ?hy20⟩) ?rest20
        case hy20 => (intro w' hw; obtain ⟨q1, q2, q3, q4⟩ := hw; have u0 := q1.cell; have u1 := q2.cell; go_simp; try with_reducible rfl)
        replace hS := SG.set (i := 1) (by decide) (by decide) hS
        try simp only [pL]
        refine wpG_t0 (i := 2) (v := ?v21) rfl (by kernel_rfl) (fun _ _ _ h => h) hS (Or.inl ⟨by rfl, ?hy21⟩) ?rest21
        case hy21 => (intro w' hw; obtain ⟨q1, q2, q3, q4⟩ := hw; have u0 := q1.cell; have u1 := q2.cell; go_simp; try with_reducible rfl)
        replace hS := SG.set (i := 2) (by decide) (by decide) hS
        try simp only [pL]
        refine wpG_t0 (i := 3) (v := ?v22) rfl (by kernel_rfl) (fun _ _ _ h => h) hS (Or.inl ⟨by rfl, ?hy22⟩) ?rest22
        case hy22 => (intro w' hw; obtain ⟨q1, q2, q3, q4⟩ := hw; have u0 := q1.cell; have u1 := q2.cell; go_simp; try with_reducible rfl)
        replace hS := SG.set (i := 3) (by decide) (by decide) hS
        try simp only [pL]
        refine wpG_t0 (i := 4) (v := ?v23) rfl (by kernel_rfl) (fun _ _ _ h => h) hS (Or.inl ⟨by rfl, ?hy23⟩) ?rest23
        case hy23 => (intro w' hw; obtain ⟨q1, q2, q3, q4⟩ := hw; have u0 := q1.cell; have u1 := q2.cell; go_simp; try with_reducible rfl)
        replace hS := SG.set (i := 4) (by decide) (by decide) hS
        try simp only [pL]
        refine wpG_t0 (i := 5) (v := ?v24) rfl (by kernel_rfl) (fun _ _ _ h => h) hS (Or.inl ⟨by rfl, ?hy24⟩) ?rest24
        case hy24 => (intro w' hw; obtain ⟨q1, q2, q3, q4⟩ := hw; have u0 := q1.cell; have u1 := q2.cell; go_simp; try with_reducible rfl)
        replace hS := SG.set (i := 5) (by decide) (by decide) hS
        try simp only [pL]
        refine wpG_t0 (i := 6) (v := ?v25) rfl (by kernel_rfl) (fun _ _ _ h => h) hS (Or.inl ⟨by rfl, ?hy25⟩) ?rest25
        case hy25 => (intro w' hw; obtain ⟨q1, q2, q3, q4⟩ := hw; have u0 := q1.cell; have u1 := q2.cell; go_simp; try with_reducible rfl)
        replace hS := SG.set (i := 6) (by decide) (by decide) hS
        try simp only [pL]
        refine wpG_t0 (i := 7) (v := ?v26) rfl (by kernel_rfl) (fun _ _ _ h => h) hS (Or.inl ⟨by rfl, ?hy26⟩) ?rest26
        case hy26 => (intro w' hw; obtain ⟨q1, q2, q3, q4⟩ := hw; have u0 := q1.cell; have u1 := q2.cell; go_simp; try with_reducible rfl)
        replace hS := SG.set (i := 7) (by decide) (by decide) hS
        try simp only [pL]
        refine wpG_t0 (i := 8) (v := ?v27) rfl (by kernel_rfl) (fun _ _ _ h => h) hS (Or.inl ⟨by rfl, ?hy27⟩) ?rest27
        case hy27 => (intro w' hw; obtain ⟨q1, q2, q3, q4⟩ := hw; have u0 := q1.cell; have u1 := q2.cell; go_simp; try with_reducible rfl)
        replace hS := SG.set (i := 8) (by decide) (by decide) hS
        try simp only [pL]
        refine wpG_t0 (i := 9) (v := ?v28) rfl (by kernel_rfl) (fun _ _ _ h => h) hS (Or.inl ⟨by rfl, ?hy28⟩) ?rest28
        case hy28 => (intro w' hw; obtain ⟨q1, q2, q3, q4⟩ := hw; have u0 := q1.cell; have u1 := q2.cell; go_simp; try with_reducible rfl)
        replace hS := SG.set (i := 9) (by decide) (by decide) hS
        try simp only [pL]
        refine wpG_t0 (i := 10) (v := ?v29) rfl (by kernel_rfl) (fun _ _ _ h => h) hS (Or.inl ⟨by rfl, ?hy29⟩) ?rest29
        case hy29 => (intro w' hw; obtain ⟨q1, q2, q3, q4⟩ := hw; have u0 := q1.cell; have u1 := q2.cell; go_simp; try with_reducible rfl)
        replace hS := SG.set (i := 10) (by decide) (by decide) hS
        try simp only [pL]
        refine wpG_t0 (i := 11) (v := ?v30) rfl (by kernel_rfl) (fun _ _ _ h => h) hS (Or.inl ⟨by rfl, ?hy30⟩) ?rest30
        case hy30 => (intro w' hw; obtain ⟨q1, q2, q3, q4⟩ := hw; have u0 := q1.cell; have u1 := q2.cell; go_simp; try with_reducible rfl)
        replace hS := SG.set (i := 11) (by decide) (by decide) hS
        try simp only [pL]
        refine wpG_t0 (i := 12) (v := ?v31) rfl (by kernel_rfl) (fun _ _ _ h => h) hS (Or.inl ⟨by rfl, ?hy31⟩) ?rest31
        case hy31 => (intro w' hw; obtain ⟨q1, q2, q3, q4⟩ := hw; have u0 := q1.cell; have u1 := q2.cell; go_simp; try with_reducible rfl)
        replace hS := SG.set (i := 12) (by decide) (by decide) hS
        try simp only [pL]
        refine wpG_t0 (i := 13) (v := ?v32) rfl (by kernel_rfl) (fun _ _ _ h => h) hS (Or.inl ⟨by rfl, ?hy32⟩) ?rest32
        case hy32 => (intro w' hw; obtain ⟨q1, q2, q3, q4⟩ := hw; have u0 := q1.cell; have u1 := q2.cell; go_simp; try with_reducible rfl)
        replace hS := SG.set (i := 13) (by decide) (by decide) hS
        try simp only [pL]
        have heq0 := HEQ.out
        refine wpG_t0 (i := 14) (v := ?v33) rfl (by kernel_rfl) (fun _ _ _ h => h) hS (Or.inl ⟨by rfl, ?hy33⟩) ?rest33
        case hy33 => (intro w' hw; obtain ⟨q1, q2, q3, q4⟩ := hw; have u0 := q1.cell; have u1 := q2.cell; go_simp; try with_reducible rfl)
        replace hS := SG.set (i := 14) (by decide) (by decide) hS
        try simp only [pL]
        clear heq0
        have heq := HEQ.out
        clear hS
        refine wpG_done (by kernel_rfl) ?_ _
        obtain ⟨W1, hW1⟩ : ∃ W1, W1 = WD := ⟨_, rfl⟩
        rw [← hW1] at H1 G1 HR HU y0 y1 HUS ⊢
        clear hW1
        cases be with
        | true =>
          have hzz := HBE.out.1 rfl
          have HDF : Hid (look R.bs n.word L 0 = ((ytg : Int), f)) := by unfold Hid; rw [HD.out, HDD.out, if_pos hzz]
          clear hzz heq
          have u1 := HU.out.cell
          have u2 := HU.out.thaw
          have ht0 : decide ((ytg : Int) < 0) = false := decide_eq_false (by omega)
          have u3 := (HU.out.put 1 (.int .i64 (ytg : Int))).cell
          go_wp2_with fail
          clear u1 u2 u3 y0
          have hbw : w.heap.size ≤ bu := by have := HBX.out; have := HBU.out; omega
          have HBW := Lib.hid hbw
          clear hbw
          obtain ⟨W2, hW2⟩ : ∃ W2, W2 = W1.setCell ⟨bu, 1, none⟩ (.int .i64 (ytg : Int)) := ⟨_, rfl⟩
          have H2 := Lib.hid (H1.out.set (p := ⟨bu, 1, none⟩) HUB.out (.int .i64 (ytg : Int)))
          have G2 := Lib.hid (G1.out.far (p := ⟨bu, 1, none⟩) HBW.out (.int .i64 (ytg : Int)))
          have HU2 := Lib.hid (HU.out.put 1 (.int .i64 (ytg : Int)))
          have HR2 := Lib.hid (HR.out.far (p := ⟨bu, 1, none⟩) (by show bx ≠ bu; have := HBU.out; omega) (.int .i64 (ytg : Int)))
          have y2 := (World.cell?_of_block (w := W1) (a := ⟨g1, ytg * 4 + 1, none⟩) (Below.heap_setCell W1 ⟨bu, 1, none⟩ (.int .i64 (ytg : Int)) g1 HGN.out)).trans y1
          rw [← hW2] at H2 G2 HU2 HR2 y2 ⊢
          clear hW2 H1 G1 HU HR y1 HUS
          obtain ⟨W1, hW1⟩ : ∃ W1, W1 = W2 := ⟨_, rfl⟩
          rw [← hW1] at H2 G2 HU2 HR2 y2 ⊢
          have H1 := H2
          have G1 := G2
          have HU : Hid (RowB W1 bu 65 #[.int .i64 n.at_, .int .i64 (ytg : Int), .bool wb, .int .i64 0]) := HU2.out
          have HR := HR2
          clear hW1 H2 G2 HU2 HR2
          refine wp_region_G (S := SG (fun w' => RowB w' b 40 #[.slice (some ⟨g1, 0, none⟩) R.bs.length c1, v2, v3] ∧ RowB w' bu 65 #[.int .i64 n.at_, .int .i64 (ytg : Int), .bool wb, .int .i64 0] ∧ w'.cell? ⟨g1, ytg * 4 + 1, none⟩ = some (.int .i64 zk)) 98 (fun _ => True) 99 (fun _ => True)) (by kernel_rfl) ⟨⟨H1.out.row, HU.out, y2⟩, fun _ => trivial, fun _ => trivial⟩ (fun hS => ?_)
          obtain ⟨WD, hWD⟩ : ∃ WD, WD = W1.drew := ⟨_, rfl⟩
          have H1 := Lib.hid (H1.out.drew)
          have G1 := Lib.hid (G1.out.trans (Gx.drew _ W1))
          replace HR := Lib.hid (show RowB W1.drew _ _ _ from HR.out)
          replace HU := Lib.hid (show RowB W1.drew _ _ _ from HU.out)
          rw [← hWD] at hS H1 G1 HR HU ⊢
          clear hWD y2
          refine wpG_t0 (i := 0) (v := ?v34) rfl (by kernel_rfl) (fun _ _ _ h => h) hS (Or.inl ⟨by rfl, ?hy34⟩) ?rest34
          case hy34 => (intro w' hw; obtain ⟨q1, q2, q3⟩ := hw; have u0 := q1.cell; have u1 := q2.cell; go_simp; try with_reducible rfl)
          replace hS := SG.set (i := 0) (by decide) (by decide) hS
          try simp only [pL]
          refine wpG_t0 (i := 1) (v := ?v35) rfl (by kernel_rfl) (fun _ _ _ h => h) hS (Or.inl ⟨by rfl, ?hy35⟩) ?rest35
          case hy35 => (intro w' hw; obtain ⟨q1, q2, q3⟩ := hw; have u0 := q1.cell; have u1 := q2.cell; go_simp; try with_reducible rfl)
          replace hS := SG.set (i := 1) (by decide) (by decide) hS
          try simp only [pL]
          refine wpG_t0 (i := 2) (v := ?v36) rfl (by kernel_rfl) (fun _ _ _ h => h) hS (Or.inl ⟨by rfl, ?hy36⟩) ?rest36
          case hy36 => (intro w' hw; obtain ⟨q1, q2, q3⟩ := hw; have u0 := q1.cell; have u1 := q2.cell; go_simp; try with_reducible rfl)
          replace hS := SG.set (i := 2) (by decide) (by decide) hS
          try simp only [pL]
          refine wpG_t0 (i := 3) (v := ?v37) rfl (by kernel_rfl) (fun _ _ _ h => h) hS (Or.inl ⟨by rfl, ?hy37⟩) ?rest37
          case hy37 => (intro w' hw; obtain ⟨q1, q2, q3⟩ := hw; have u0 := q1.cell; have u1 := q2.cell; go_simp; try with_reducible rfl)
          replace hS := SG.set (i := 3) (by decide) (by decide) hS
          try simp only [pL]
          refine wpG_t0 (i := 4) (v := ?v38) rfl (by kernel_rfl) (fun _ _ _ h => h) hS (Or.inl ⟨by rfl, ?hy38⟩) ?rest38
          case hy38 => (intro w' hw; obtain ⟨q1, q2, q3⟩ := hw; have u0 := q1.cell; have u1 := q2.cell; go_simp; try with_reducible rfl)
          replace hS := SG.set (i := 4) (by decide) (by decide) hS
          try simp only [pL]
          refine wpG_t0 (i := 5) (v := ?v39) rfl (by kernel_rfl) (fun _ _ _ h => h) hS (Or.inl ⟨by rfl, ?hy39⟩) ?rest39
          case hy39 => (intro w' hw; obtain ⟨q1, q2, q3⟩ := hw; have u0 := q1.cell; have u1 := q2.cell; go_simp; try with_reducible rfl)
          replace hS := SG.set (i := 5) (by decide) (by decide) hS
          try simp only [pL]
          refine wpG_t0 (i := 6) (v := ?v40) rfl (by kernel_rfl) (fun _ _ _ h => h) hS (Or.inl ⟨by rfl, ?hy40⟩) ?rest40
          case hy40 => (intro w' hw; obtain ⟨q1, q2, q3⟩ := hw; have u0 := q1.cell; have u1 := q2.cell; go_simp; try with_reducible rfl)
          replace hS := SG.set (i := 6) (by decide) (by decide) hS
          try simp only [pL]
          refine wpG_t0 (i := 7) (v := ?v41) rfl (by kernel_rfl) (fun _ _ _ h => h) hS (Or.inl ⟨by rfl, ?hy41⟩) ?rest41
          case hy41 => (intro w' hw; obtain ⟨q1, q2, q3⟩ := hw; have u0 := q1.cell; have u1 := q2.cell; go_simp; try with_reducible rfl)
          replace hS := SG.set (i := 7) (by decide) (by decide) hS
          try simp only [pL]
          refine wpG_t0 (i := 8) (v := ?v42) rfl (by kernel_rfl) (fun _ _ _ h => h) hS (Or.inl ⟨by rfl, ?hy42⟩) ?rest42
          case hy42 => (intro w' hw; obtain ⟨q1, q2, q3⟩ := hw; have u0 := q1.cell; have u1 := q2.cell; go_simp; try with_reducible rfl)
          replace hS := SG.set (i := 8) (by decide) (by decide) hS
          try simp only [pL]
          refine wpG_t0 (i := 9) (v := ?v43) rfl (by kernel_rfl) (fun _ _ _ h => h) hS (Or.inl ⟨by rfl, ?hy43⟩) ?rest43
          case hy43 => (intro w' hw; obtain ⟨q1, q2, q3⟩ := hw; have u0 := q1.cell; have u1 := q2.cell; go_simp; try with_reducible rfl)
          replace hS := SG.set (i := 9) (by decide) (by decide) hS
          try simp only [pL]
          clear hS
          refine wpG_done (by kernel_rfl) ?_ _
          obtain ⟨W1, hW1⟩ : ∃ W1, W1 = WD := ⟨_, rfl⟩
          rw [← hW1] at H1 G1 HR HU ⊢
          clear hW1
          have HUS := Lib.hid HU.out.lt
          obtain ⟨v1, hv1⟩ : ∃ v1, v1 = Value.slice (some ⟨g1, 0, none⟩) R.bs.length c1 := ⟨_, rfl⟩
          rw [← hv1] at H1
          clear hv1
          by_cases hk3 : 3 ≤ zk
          · have hkd : decide (3 ≤ zk) = true := decide_eq_true hk3
            have HK3 : Hid (3 ≤ kindOf R.bs ytg) := by unfold Hid; rw [HKZ.out]; exact hk3
            have u1 := HU.out.cell
            have u2 := HU.out.thaw
            go_wp2_with fail
            clear u1 u2
            obtain ⟨W2, hW2⟩ : ∃ W2, W2 = W1.setCell ⟨bu, 3, none⟩ (.int .i64 f) := ⟨_, rfl⟩
            have H2 := Lib.hid (H1.out.set (p := ⟨bu, 3, none⟩) HUB.out (.int .i64 f))
            have G2 := Lib.hid (G1.out.far (p := ⟨bu, 3, none⟩) HBW.out (.int .i64 f))
            have HU2 := Lib.hid (HU.out.put 3 (.int .i64 f))
            rw [← hW2] at H2 G2 HU2 ⊢
            clear hW2 H1 G1 HU HR HUS
            obtain ⟨W1, hW1⟩ : ∃ W1, W1 = W2 := ⟨_, rfl⟩
            rw [← hW1] at H2 G2 HU2 ⊢
            have H1 := H2
            have G1 := G2
            have HU : Hid (RowB W1 bu 65 #[.int .i64 n.at_, .int .i64 (ytg : Int), .bool wb, .int .i64 f]) := HU2.out
            clear hW1 H2 G2 HU2
            replace HR := HU
            refine wp_region_G (S := SG (fun _ => True) 10 (fun w' => RowB w' b 40 #[v1, v2, v3] ∧ RowB w' bu 65 #[.int .i64 n.at_, .int .i64 (ytg : Int), .bool wb, .int .i64 f]) 99 (fun _ => True)) (by kernel_rfl) ⟨trivial, fun _ => ⟨H1.out.row, HR.out⟩, fun _ => trivial⟩ (fun hS => ?_)
            obtain ⟨WD, hWD⟩ : ∃ WD, WD = W1.drew := ⟨_, rfl⟩
            have H1 := Lib.hid (H1.out.drew)
            have G1 := Lib.hid (G1.out.trans (Gx.drew _ W1))
            replace HR := Lib.hid (show RowB W1.drew _ _ _ from HR.out)
            rw [← hWD] at hS H1 G1 HR ⊢
            clear hWD
            refine wpG_t1 (i := 0) (v := ?v44) rfl (by kernel_rfl) (fun _ _ _ h => h) hS (Or.inl ⟨by rfl, ?hy44⟩) ?rest44
            case hy44 => (intro w' hw; obtain ⟨_, q1, q2⟩ := hw; have u0 := q1.cell; have u1 := q2.cell; go_simp; try with_reducible rfl)
            replace hS := SG.set (i := 0) (by decide) (by decide) hS
            try simp only [pL]
            refine wpG_t1 (i := 1) (v := ?v45) rfl (by kernel_rfl) (fun _ _ _ h => h) hS (Or.inl ⟨by rfl, ?hy45⟩) ?rest45
            case hy45 => (intro w' hw; obtain ⟨_, q1, q2⟩ := hw; have u0 := q1.cell; have u1 := q2.cell; go_simp; try with_reducible rfl)
            replace hS := SG.set (i := 1) (by decide) (by decide) hS
            try simp only [pL]
            refine wpG_t1 (i := 2) (v := ?v46) rfl (by kernel_rfl) (fun _ _ _ h => h) hS (Or.inl ⟨by rfl, ?hy46⟩) ?rest46
            case hy46 => (intro w' hw; obtain ⟨_, q1, q2⟩ := hw; have u0 := q1.cell; have u1 := q2.cell; go_simp; try with_reducible rfl)
            replace hS := SG.set (i := 2) (by decide) (by decide) hS
            try simp only [pL]
            refine wpG_t1 (i := 3) (v := ?v47) rfl (by kernel_rfl) (fun _ _ _ h => h) hS (Or.inl ⟨by rfl, ?hy47⟩) ?rest47
            case hy47 => (intro w' hw; obtain ⟨_, q1, q2⟩ := hw; have u0 := q1.cell; have u1 := q2.cell; go_simp; try with_reducible rfl)
            replace hS := SG.set (i := 3) (by decide) (by decide) hS
            try simp only [pL]
            refine wpG_t1 (i := 4) (v := ?v48) rfl (by kernel_rfl) (fun _ _ _ h => h) hS (Or.inl ⟨by rfl, ?hy48⟩) ?rest48
            case hy48 => (intro w' hw; obtain ⟨_, q1, q2⟩ := hw; have u0 := q1.cell; have u1 := q2.cell; go_simp; try with_reducible rfl)
            replace hS := SG.set (i := 4) (by decide) (by decide) hS
            try simp only [pL]
            refine wpG_t1 (i := 5) (v := ?v49) rfl (by kernel_rfl) (fun _ _ _ h => h) hS (Or.inl ⟨by rfl, ?hy49⟩) ?rest49
            case hy49 => (intro w' hw; obtain ⟨_, q1, q2⟩ := hw; have u0 := q1.cell; have u1 := q2.cell; go_simp; try with_reducible rfl)
            replace hS := SG.set (i := 5) (by decide) (by decide) hS
            try simp only [pL]
            clear hS
            have H2 := Lib.hid (H1.out.alloc (.cells #[.int .i64 n.at_, .int .i64 (ytg : Int), .bool wb, .int .i64 f] 65))
            have G2 := Lib.hid (G1.out.trans (Gx.alloc _ WD (.cells #[.int .i64 n.at_, .int .i64 (ytg : Int), .bool wb, .int .i64 f] 65)))
            have RN := Lib.hid (RowB.new WD 65 #[.int .i64 n.at_, .int .i64 (ytg : Int), .bool wb, .int .i64 f])
            have HR2 := Lib.hid (HR.out.alloc (.cells #[.int .i64 n.at_, .int .i64 (ytg : Int), .bool wb, .int .i64 f] 65))
            refine wpG_ready (rs := [6]) (by kernel_rfl) (by simp) ?_
            refine RG.cons rfl rfl (fun K' hK => ?_) RG.nil
            go_simp
            refine hK.out _ _ ⟨trivial, fun _ => ⟨H2.out.row, HR2.out⟩, fun _ => trivial⟩ (fun hS => ?_)
            clear hK K'
            try simp only [pL]
            clear hS
            obtain ⟨W2, hW2⟩ : ∃ W2, W2 = WD.alloc (.cells #[.int .i64 n.at_, .int .i64 (ytg : Int), .bool wb, .int .i64 f] 65) := ⟨_, rfl⟩
            rw [← hW2] at H2 G2 RN HR2 ⊢
            obtain ⟨v', W3, hr, ho, hg, hl⟩ := app_at (w := W2) (t := 37) (e := 65) (size := 4) (bytes := 32) (z := .agg #[.int .i64 0, .int .i64 0, .bool false, .int .i64 0]) Try.underlying37 (by kernel_rfl) rfl (by decide) (by decide) B v2 _ _ H2.out.o2 _ _ RN.out rfl (by intro u hu; simp at hu; rcases hu with rfl | rfl | rfl | rfl <;> rfl) (by have := H2.out.sum; omega) (by have := (H2.out.lt _ H2.out.kb); (try simp only at this); omega) 37
            have r3 : RowB W3 b 40 #[v1, v2, v3] := (hg.block _ H2.out.row.lt (fun e => own_ne_row H2.out.o2 H2.out.row (by decide) e.symm)).trans H2.out.row
            have b3 : RowB W3 bu 65 #[.int .i64 n.at_, .int .i64 (ytg : Int), .bool wb, .int .i64 f] := (hg.block _ HR2.out.lt (fun e => HUB.out (H2.out.k2 _ e.symm))).trans HR2.out
            have FIN := Lib.hid (H2.out.app2 (x := ⟨n.at_, (ytg : Int), wb, f⟩) ho hg hl)
            obtain ⟨A', c', rfl, _⟩ := own_shape ho
            have R3 := Lib.hid r3
            have B3 := Lib.hid b3
            clear ho hg hl r3 b3 hW2 H2 HR2 RN
            refine wpG_ready (rs := [7]) (by kernel_rfl) (by simp) ?_
            refine RG.cons rfl rfl (fun K' hK => ?_) RG.nil
            refine wp_append_run (.tmp 99) (.tmp 101) 37 (by rfl) (by rfl) (by rfl) hr ?_
            refine hK.out _ _ ⟨trivial, fun _ => ⟨R3.out, B3.out⟩, fun _ => trivial⟩ (fun hS => ?_)
            clear hK K'
            try simp only [pL]
            clear hr
            refine wpG_t0 (i := 8) (v := ?v50) rfl (by kernel_rfl) (fun _ _ _ h => h) hS (Or.inl ⟨by rfl, ?hy50⟩) ?rest50
            case hy50 => (intro w' hw; go_simp; try with_reducible rfl)
            replace hS := SG.set (i := 8) (by decide) (by decide) hS
            try simp only [pL]
            refine wpG_t0 (i := 9) (v := ?v51) rfl (by kernel_rfl) (fun _ _ _ h => h) hS (Or.inl ⟨by rfl, ?hy51⟩) ?rest51
            case hy51 => (intro w' hw; go_simp; try with_reducible rfl)
            replace hS := SG.set (i := 9) (by decide) (by decide) hS
            try simp only [pL]
            clear hS
            have yc := R3.out.cell
            have yt := R3.out.thaw
            refine wpG_ready (rs := [10]) (by kernel_rfl) (by simp) ?_
            refine RG.cons rfl rfl (fun K' hK => ?_) RG.nil
            go_simp
            refine hK.out _ _ ⟨trivial, fun h => absurd (h : true = false) (by decide), fun _ => trivial⟩ (fun hS => ?_)
            clear hK K'
            try simp only [pL]
            clear hS yc yt R3
            refine wpG_done (by kernel_rfl) ?_ _
            go_end0
            have em : mentionR n.at_ n.word wb (R, L) = ⟨R.bs, R.ms ++ [⟨n.at_, (ytg : Int), wb, f⟩], R.bad⟩ := by
              exact mr_far HDF.out HK3.out
            exact ⟨rfl, _, _, _, _, by rw [em]; exact (FIN.out.1).mono (by omega), G2.out.trans FIN.out.2⟩
          · have hkd : decide (3 ≤ zk) = false := decide_eq_false hk3
            have HK3 : Hid (¬ 3 ≤ kindOf R.bs ytg) := by unfold Hid; rw [HKZ.out]; exact hk3
            cases wb with
            | true =>
              go_wp2_with fail
              have GT := Lib.hid G1.out
              replace G1 := Lib.hid (Gx.of (K := K) (Below.refl W1.heap.size W1))
              obtain ⟨W0, hW0⟩ : ∃ W0, W0 = W1 := ⟨_, rfl⟩
              have HW0 := Lib.hid hW0
              clear hW0
              refine wp_region_G (S := SG (fun _ => True) 12 (fun w' => RowB w' b 40 #[v1, v2, v3] ∧ RowB w' bx 25 #[.int .i64 n.kind, .int .i64 n.fro, .int .i64 n.til, .string n.word, .int .i64 n.at_, .slice A k c]) 99 (fun _ => True)) (by kernel_rfl) ⟨trivial, fun _ => ⟨H1.out.row, HR.out⟩, fun _ => trivial⟩ (fun hS => ?_)
              obtain ⟨WD, hWD⟩ : ∃ WD, WD = W1.drew := ⟨_, rfl⟩
              have H1 := Lib.hid (H1.out.drew)
              have G1 := Lib.hid (G1.out.trans (Gx.drew _ W1))
              replace HR := Lib.hid (show RowB W1.drew _ _ _ from HR.out)
              rw [← hWD] at hS H1 G1 HR ⊢
              clear hWD
              refine wpG_t1 (i := 0) (v := ?v52) rfl (by kernel_rfl) (fun _ _ _ h => h) hS (Or.inl ⟨by rfl, ?hy52⟩) ?rest52
              case hy52 => (intro w' hw; obtain ⟨_, q1, q2⟩ := hw; have u0 := q1.cell; have u1 := q2.cell; go_simp; try with_reducible rfl)
              replace hS := SG.set (i := 0) (by decide) (by decide) hS
              try simp only [pL]
              refine wpG_t1 (i := 1) (v := ?v53) rfl (by kernel_rfl) (fun _ _ _ h => h) hS (Or.inl ⟨by rfl, ?hy53⟩) ?rest53
              case hy53 => (intro w' hw; obtain ⟨_, q1, q2⟩ := hw; have u0 := q1.cell; have u1 := q2.cell; go_simp; try with_reducible rfl)
              replace hS := SG.set (i := 1) (by decide) (by decide) hS
              try simp only [pL]
              refine wpG_t1 (i := 2) (v := ?v54) rfl (by kernel_rfl) (fun _ _ _ h => h) hS (Or.inl ⟨by rfl, ?hy54⟩) ?rest54
              case hy54 => (intro w' hw; obtain ⟨_, q1, q2⟩ := hw; have u0 := q1.cell; have u1 := q2.cell; go_simp; try with_reducible rfl)
              replace hS := SG.set (i := 2) (by decide) (by decide) hS
              try simp only [pL]
              refine wpG_t1 (i := 3) (v := ?v55) rfl (by kernel_rfl) (fun _ _ _ h => h) hS (Or.inl ⟨by rfl, ?hy55⟩) ?rest55
              case hy55 => (intro w' hw; obtain ⟨_, q1, q2⟩ := hw; have u0 := q1.cell; have u1 := q2.cell; go_simp; try with_reducible rfl)
              replace hS := SG.set (i := 3) (by decide) (by decide) hS
              try simp only [pL]
              refine wpG_t1 (i := 4) (v := ?v56) rfl (by kernel_rfl) (fun _ _ _ h => h) hS (Or.inl ⟨by rfl, ?hy56⟩) ?rest56
              case hy56 => (intro w' hw; obtain ⟨_, q1, q2⟩ := hw; have u0 := q1.cell; have u1 := q2.cell; go_simp; try with_reducible rfl)
              replace hS := SG.set (i := 4) (by decide) (by decide) hS
              try simp only [pL]
              refine wpG_t1 (i := 5) (v := ?v57) rfl (by kernel_rfl) (fun _ _ _ h => h) hS (Or.inl ⟨by rfl, ?hy57⟩) ?rest57
              case hy57 => (intro w' hw; obtain ⟨_, q1, q2⟩ := hw; have u0 := q1.cell; have u1 := q2.cell; go_simp; try with_reducible rfl)
              replace hS := SG.set (i := 5) (by decide) (by decide) hS
              try simp only [pL]
              refine wpG_t1 (i := 6) (v := ?v58) rfl (by kernel_rfl) (fun _ _ _ h => h) hS (Or.inl ⟨by rfl, ?hy58⟩) ?rest58
              case hy58 => (intro w' hw; obtain ⟨_, q1, q2⟩ := hw; have u0 := q1.cell; have u1 := q2.cell; go_simp; try with_reducible rfl)
              replace hS := SG.set (i := 6) (by decide) (by decide) hS
              try simp only [pL]
              refine wpG_t1 (i := 7) (v := ?v59) rfl (by kernel_rfl) (fun _ _ _ h => h) hS (Or.inl ⟨by rfl, ?hy59⟩) ?rest59
              case hy59 => (intro w' hw; obtain ⟨_, q1, q2⟩ := hw; have u0 := q1.cell; have u1 := q2.cell; go_simp; try with_reducible rfl)
              replace hS := SG.set (i := 7) (by decide) (by decide) hS
              try simp only [pL]
              clear hS
              have H2 := Lib.hid (H1.out.alloc (.cells #[.int .i64 n.at_, .int .i64 35] 67))
              have G2 := Lib.hid (G1.out.trans (Gx.alloc _ WD (.cells #[.int .i64 n.at_, .int .i64 35] 67)))
              have RN := Lib.hid (RowB.new WD 67 #[.int .i64 n.at_, .int .i64 35])
              have HR2 := Lib.hid (HR.out.alloc (.cells #[.int .i64 n.at_, .int .i64 35] 67))
              refine wpG_ready (rs := [8]) (by kernel_rfl) (by simp) ?_
              refine RG.cons rfl rfl (fun K' hK => ?_) RG.nil
              go_simp
              refine hK.out _ _ ⟨trivial, fun _ => ⟨H2.out.row, HR2.out⟩, fun _ => trivial⟩ (fun hS => ?_)
              clear hK K'
              try simp only [pL]
              clear hS
              obtain ⟨W2, hW2⟩ : ∃ W2, W2 = WD.alloc (.cells #[.int .i64 n.at_, .int .i64 35] 67) := ⟨_, rfl⟩
              rw [← hW2] at H2 G2 RN HR2 ⊢
              obtain ⟨v', W3, hr, ho, hg, hl⟩ := app_at (w := W2) (t := 38) (e := 67) (size := 2) (bytes := 16) (z := .agg #[.int .i64 0, .int .i64 0]) Try.underlying38 (by kernel_rfl) rfl (by decide) (by decide) B v3 _ _ H2.out.o3 _ _ RN.out rfl (by intro u hu; simp at hu; rcases hu with rfl | rfl <;> rfl) (by have := H2.out.sum; omega) (by have := (H2.out.lt _ H2.out.kb); (try simp only at this); omega) 38
              have r3 : RowB W3 b 40 #[v1, v2, v3] := (hg.block _ H2.out.row.lt (fun e => own_ne_row H2.out.o3 H2.out.row (by decide) e.symm)).trans H2.out.row
              have b3 : RowB W3 bx 25 #[.int .i64 n.kind, .int .i64 n.fro, .int .i64 n.til, .string n.word, .int .i64 n.at_, .slice A k c] := (hg.block _ HR2.out.lt (fun e => own_ne_row H2.out.o3 HR2.out (by decide) e.symm)).trans HR2.out
              have FIN := Lib.hid (H2.out.app3 (x := (n.at_, 35)) ho hg hl)
              obtain ⟨A', c', rfl, _⟩ := own_shape ho
              have R3 := Lib.hid r3
              have B3 := Lib.hid b3
              clear ho hg hl r3 b3 hW2 H2 HR2 RN
              refine wpG_ready (rs := [9]) (by kernel_rfl) (by simp) ?_
              refine RG.cons rfl rfl (fun K' hK => ?_) RG.nil
              refine wp_append_run (.tmp 87) (.tmp 91) 38 (by rfl) (by rfl) (by rfl) hr ?_
              refine hK.out _ _ ⟨trivial, fun _ => ⟨R3.out, B3.out⟩, fun _ => trivial⟩ (fun hS => ?_)
              clear hK K'
              try simp only [pL]
              clear hr
              refine wpG_t0 (i := 10) (v := ?v60) rfl (by kernel_rfl) (fun _ _ _ h => h) hS (Or.inl ⟨by rfl, ?hy60⟩) ?rest60
              case hy60 => (intro w' hw; go_simp; try with_reducible rfl)
              replace hS := SG.set (i := 10) (by decide) (by decide) hS
              try simp only [pL]
              refine wpG_t0 (i := 11) (v := ?v61) rfl (by kernel_rfl) (fun _ _ _ h => h) hS (Or.inl ⟨by rfl, ?hy61⟩) ?rest61
              case hy61 => (intro w' hw; go_simp; try with_reducible rfl)
              replace hS := SG.set (i := 11) (by decide) (by decide) hS
              try simp only [pL]
              clear hS
              have yc := R3.out.cell
              have yt := R3.out.thaw
              refine wpG_ready (rs := [12]) (by kernel_rfl) (by simp) ?_
              refine RG.cons rfl rfl (fun K' hK => ?_) RG.nil
              go_simp
              refine hK.out _ _ ⟨trivial, fun h => absurd (h : true = false) (by decide), fun _ => trivial⟩ (fun hS => ?_)
              clear hK K'
              try simp only [pL]
              clear hS yc yt R3
              refine wpG_done (by kernel_rfl) ?_ _
              obtain ⟨R1, hR1⟩ : ∃ R1 : Rm, R1 = ⟨R.bs, R.ms, R.bad ++ [(n.at_, 35)]⟩ := ⟨_, rfl⟩
              rw [← hR1] at FIN
              have HR1 := Lib.hid hR1
              clear hR1 B3
              obtain ⟨v3, hv3'⟩ : ∃ v3, v3 = Value.slice A' (R.bad.length + 1) c' := ⟨_, rfl⟩
              obtain ⟨W1, hW1⟩ : ∃ W1, W1 = W3.setCell ⟨b, 2, none⟩ (.slice A' (R.bad.length + 1) c') := ⟨_, rfl⟩
              rw [← hW1] at FIN ⊢
              rw [← hv3'] at FIN
              have H1 := Lib.hid FIN.out.1
              replace G2 := Lib.hid (G2.out.trans FIN.out.2)
              rw [← HW0.out] at G2
              have HU := Lib.hid (G2.out.row (by rw [HW0.out]; exact HU.out) HUB.out)
              have HUB : Hid (¬ KU K v3 bu) := fun hk => by
                rcases G2.out.own bu hk with h1 | h1
                · exact HUB.out h1
                · have := HUS.out; rw [HW0.out] at h1; omega
              have G1 : Hid (Gx K w (KU K v3) W1) := GT.out.trans (by rw [← HW0.out]; exact G2.out)
              clear FIN G2 hW1 hv3' GT HW0
              go_wp2_with fail
              replace HR := HU
              refine wp_region_G (S := SG (fun _ => True) 10 (fun w' => RowB w' b 40 #[v1, v2, v3] ∧ RowB w' bu 65 #[.int .i64 n.at_, .int .i64 (ytg : Int), .bool true, .int .i64 0]) 99 (fun _ => True)) (by kernel_rfl) ⟨trivial, fun _ => ⟨H1.out.row, HR.out⟩, fun _ => trivial⟩ (fun hS => ?_)
              obtain ⟨WD, hWD⟩ : ∃ WD, WD = W1.drew := ⟨_, rfl⟩
              have H1 := Lib.hid (H1.out.drew)
              have G1 := Lib.hid (G1.out.trans (Gx.drew _ W1))
              replace HR := Lib.hid (show RowB W1.drew _ _ _ from HR.out)
              rw [← hWD] at hS H1 G1 HR ⊢
              clear hWD
              refine wpG_t1 (i := 0) (v := ?v62) rfl (by kernel_rfl) (fun _ _ _ h => h) hS (Or.inl ⟨by rfl, ?hy62⟩) ?rest62
              case hy62 => (intro w' hw; obtain ⟨_, q1, q2⟩ := hw; have u0 := q1.cell; have u1 := q2.cell; go_simp; try with_reducible rfl)
              replace hS := SG.set (i := 0) (by decide) (by decide) hS
              try simp only [pL]
              refine wpG_t1 (i := 1) (v := ?v63) rfl (by kernel_rfl) (fun _ _ _ h => h) hS (Or.inl ⟨by rfl, ?hy63⟩) ?rest63
              case hy63 => (intro w' hw; obtain ⟨_, q1, q2⟩ := hw; have u0 := q1.cell; have u1 := q2.cell; go_simp; try with_reducible rfl)
              replace hS := SG.set (i := 1) (by decide) (by decide) hS
              try simp only [pL]
              refine wpG_t1 (i := 2) (v := ?v64) rfl (by kernel_rfl) (fun _ _ _ h => h) hS (Or.inl ⟨by rfl, ?hy64⟩) ?rest64
              case hy64 => (intro w' hw; obtain ⟨_, q1, q2⟩ := hw; have u0 := q1.cell; have u1 := q2.cell; go_simp; try with_reducible rfl)
              replace hS := SG.set (i := 2) (by decide) (by decide) hS
              try simp only [pL]
              refine wpG_t1 (i := 3) (v := ?v65) rfl (by kernel_rfl) (fun _ _ _ h => h) hS (Or.inl ⟨by rfl, ?hy65⟩) ?rest65
              case hy65 => (intro w' hw; obtain ⟨_, q1, q2⟩ := hw; have u0 := q1.cell; have u1 := q2.cell; go_simp; try with_reducible rfl)
              replace hS := SG.set (i := 3) (by decide) (by decide) hS
              try simp only [pL]
              refine wpG_t1 (i := 4) (v := ?v66) rfl (by kernel_rfl) (fun _ _ _ h => h) hS (Or.inl ⟨by rfl, ?hy66⟩) ?rest66
              case hy66 => (intro w' hw; obtain ⟨_, q1, q2⟩ := hw; have u0 := q1.cell; have u1 := q2.cell; go_simp; try with_reducible rfl)
              replace hS := SG.set (i := 4) (by decide) (by decide) hS
              try simp only [pL]
              refine wpG_t1 (i := 5) (v := ?v67) rfl (by kernel_rfl) (fun _ _ _ h => h) hS (Or.inl ⟨by rfl, ?hy67⟩) ?rest67
              case hy67 => (intro w' hw; obtain ⟨_, q1, q2⟩ := hw; have u0 := q1.cell; have u1 := q2.cell; go_simp; try with_reducible rfl)
              replace hS := SG.set (i := 5) (by decide) (by decide) hS
              try simp only [pL]
              clear hS
              have H2 := Lib.hid (H1.out.alloc (.cells #[.int .i64 n.at_, .int .i64 (ytg : Int), .bool true, .int .i64 0] 65))
              have G2 := Lib.hid (G1.out.trans (Gx.alloc _ WD (.cells #[.int .i64 n.at_, .int .i64 (ytg : Int), .bool true, .int .i64 0] 65)))
              have RN := Lib.hid (RowB.new WD 65 #[.int .i64 n.at_, .int .i64 (ytg : Int), .bool true, .int .i64 0])
              have HR2 := Lib.hid (HR.out.alloc (.cells #[.int .i64 n.at_, .int .i64 (ytg : Int), .bool true, .int .i64 0] 65))
              refine wpG_ready (rs := [6]) (by kernel_rfl) (by simp) ?_
              refine RG.cons rfl rfl (fun K' hK => ?_) RG.nil
              go_simp
              refine hK.out _ _ ⟨trivial, fun _ => ⟨H2.out.row, HR2.out⟩, fun _ => trivial⟩ (fun hS => ?_)
              clear hK K'
              try simp only [pL]
              clear hS
              obtain ⟨W2, hW2⟩ : ∃ W2, W2 = WD.alloc (.cells #[.int .i64 n.at_, .int .i64 (ytg : Int), .bool true, .int .i64 0] 65) := ⟨_, rfl⟩
              rw [← hW2] at H2 G2 RN HR2 ⊢
              obtain ⟨v', W3, hr, ho, hg, hl⟩ := app_at (w := W2) (t := 37) (e := 65) (size := 4) (bytes := 32) (z := .agg #[.int .i64 0, .int .i64 0, .bool false, .int .i64 0]) Try.underlying37 (by kernel_rfl) rfl (by decide) (by decide) B v2 _ _ H2.out.o2 _ _ RN.out rfl (by intro u hu; simp at hu; rcases hu with rfl | rfl | rfl | rfl <;> rfl) (by have := H2.out.sum; omega) (by have := (H2.out.lt _ H2.out.kb); (try simp only at this); omega) 37
              have r3 : RowB W3 b 40 #[v1, v2, v3] := (hg.block _ H2.out.row.lt (fun e => own_ne_row H2.out.o2 H2.out.row (by decide) e.symm)).trans H2.out.row
              have b3 : RowB W3 bu 65 #[.int .i64 n.at_, .int .i64 (ytg : Int), .bool true, .int .i64 0] := (hg.block _ HR2.out.lt (fun e => HUB.out (H2.out.k2 _ e.symm))).trans HR2.out
              have FIN := Lib.hid (H2.out.app2 (x := ⟨n.at_, (ytg : Int), true, 0⟩) ho hg hl)
              obtain ⟨A', c', rfl, _⟩ := own_shape ho
              have R3 := Lib.hid r3
              have B3 := Lib.hid b3
              clear ho hg hl r3 b3 hW2 H2 HR2 RN
              refine wpG_ready (rs := [7]) (by kernel_rfl) (by simp) ?_
              refine RG.cons rfl rfl (fun K' hK => ?_) RG.nil
              refine wp_append_run (.tmp 99) (.tmp 101) 37 (by rfl) (by rfl) (by rfl) hr ?_
              refine hK.out _ _ ⟨trivial, fun _ => ⟨R3.out, B3.out⟩, fun _ => trivial⟩ (fun hS => ?_)
              clear hK K'
              try simp only [pL]
              clear hr
              refine wpG_t0 (i := 8) (v := ?v68) rfl (by kernel_rfl) (fun _ _ _ h => h) hS (Or.inl ⟨by rfl, ?hy68⟩) ?rest68
              case hy68 => (intro w' hw; go_simp; try with_reducible rfl)
              replace hS := SG.set (i := 8) (by decide) (by decide) hS
              try simp only [pL]
              refine wpG_t0 (i := 9) (v := ?v69) rfl (by kernel_rfl) (fun _ _ _ h => h) hS (Or.inl ⟨by rfl, ?hy69⟩) ?rest69
              case hy69 => (intro w' hw; go_simp; try with_reducible rfl)
              replace hS := SG.set (i := 9) (by decide) (by decide) hS
              try simp only [pL]
              clear hS
              have yc := R3.out.cell
              have yt := R3.out.thaw
              refine wpG_ready (rs := [10]) (by kernel_rfl) (by simp) ?_
              refine RG.cons rfl rfl (fun K' hK => ?_) RG.nil
              go_simp
              refine hK.out _ _ ⟨trivial, fun h => absurd (h : true = false) (by decide), fun _ => trivial⟩ (fun hS => ?_)
              clear hK K'
              try simp only [pL]
              clear hS yc yt R3
              refine wpG_done (by kernel_rfl) ?_ _
              go_end0
              have em : mentionR n.at_ n.word true (R, L) = ⟨R1.bs, R1.ms ++ [⟨n.at_, (ytg : Int), true, 0⟩], R1.bad⟩ := by
                rw [HR1.out]; exact mr_set HDF.out (by have := HK3.out; omega)
              exact ⟨rfl, _, _, _, _, by rw [em]; exact (FIN.out.1).mono (by omega), G2.out.trans FIN.out.2⟩
            | false =>
              go_wp2_with fail
              replace HR := HU
              refine wp_region_G (S := SG (fun _ => True) 10 (fun w' => RowB w' b 40 #[v1, v2, v3] ∧ RowB w' bu 65 #[.int .i64 n.at_, .int .i64 (ytg : Int), .bool false, .int .i64 0]) 99 (fun _ => True)) (by kernel_rfl) ⟨trivial, fun _ => ⟨H1.out.row, HR.out⟩, fun _ => trivial⟩ (fun hS => ?_)
              obtain ⟨WD, hWD⟩ : ∃ WD, WD = W1.drew := ⟨_, rfl⟩
              have H1 := Lib.hid (H1.out.drew)
              have G1 := Lib.hid (G1.out.trans (Gx.drew _ W1))
              replace HR := Lib.hid (show RowB W1.drew _ _ _ from HR.out)
              rw [← hWD] at hS H1 G1 HR ⊢
              clear hWD
              refine wpG_t1 (i := 0) (v := ?v70) rfl (by kernel_rfl) (fun _ _ _ h => h) hS (Or.inl ⟨by rfl, ?hy70⟩) ?rest70
              case hy70 => (intro w' hw; obtain ⟨_, q1, q2⟩ := hw; have u0 := q1.cell; have u1 := q2.cell; go_simp; try with_reducible rfl)
              replace hS := SG.set (i := 0) (by decide) (by decide) hS
              try simp only [pL]
              refine wpG_t1 (i := 1) (v := ?v71) rfl (by kernel_rfl) (fun _ _ _ h => h) hS (Or.inl ⟨by rfl, ?hy71⟩) ?rest71
              case hy71 => (intro w' hw; obtain ⟨_, q1, q2⟩ := hw; have u0 := q1.cell; have u1 := q2.cell; go_simp; try with_reducible rfl)
              replace hS := SG.set (i := 1) (by decide) (by decide) hS
              try simp only [pL]
              refine wpG_t1 (i := 2) (v := ?v72) rfl (by kernel_rfl) (fun _ _ _ h => h) hS (Or.inl ⟨by rfl, ?hy72⟩) ?rest72
              case hy72 => (intro w' hw; obtain ⟨_, q1, q2⟩ := hw; have u0 := q1.cell; have u1 := q2.cell; go_simp; try with_reducible rfl)
              replace hS := SG.set (i := 2) (by decide) (by decide) hS
              try simp only [pL]
              refine wpG_t1 (i := 3) (v := ?v73) rfl (by kernel_rfl) (fun _ _ _ h => h) hS (Or.inl ⟨by rfl, ?hy73⟩) ?rest73
              case hy73 => (intro w' hw; obtain ⟨_, q1, q2⟩ := hw; have u0 := q1.cell; have u1 := q2.cell; go_simp; try with_reducible rfl)
              replace hS := SG.set (i := 3) (by decide) (by decide) hS
              try simp only [pL]
              refine wpG_t1 (i := 4) (v := ?v74) rfl (by kernel_rfl) (fun _ _ _ h => h) hS (Or.inl ⟨by rfl, ?hy74⟩) ?rest74
              case hy74 => (intro w' hw; obtain ⟨_, q1, q2⟩ := hw; have u0 := q1.cell; have u1 := q2.cell; go_simp; try with_reducible rfl)
              replace hS := SG.set (i := 4) (by decide) (by decide) hS
              try simp only [pL]
              refine wpG_t1 (i := 5) (v := ?v75) rfl (by kernel_rfl) (fun _ _ _ h => h) hS (Or.inl ⟨by rfl, ?hy75⟩) ?rest75
              case hy75 => (intro w' hw; obtain ⟨_, q1, q2⟩ := hw; have u0 := q1.cell; have u1 := q2.cell; go_simp; try with_reducible rfl)
              replace hS := SG.set (i := 5) (by decide) (by decide) hS
              try simp only [pL]
              clear hS
              have H2 := Lib.hid (H1.out.alloc (.cells #[.int .i64 n.at_, .int .i64 (ytg : Int), .bool false, .int .i64 0] 65))
              have G2 := Lib.hid (G1.out.trans (Gx.alloc _ WD (.cells #[.int .i64 n.at_, .int .i64 (ytg : Int), .bool false, .int .i64 0] 65)))
              have RN := Lib.hid (RowB.new WD 65 #[.int .i64 n.at_, .int .i64 (ytg : Int), .bool false, .int .i64 0])
              have HR2 := Lib.hid (HR.out.alloc (.cells #[.int .i64 n.at_, .int .i64 (ytg : Int), .bool false, .int .i64 0] 65))
              refine wpG_ready (rs := [6]) (by kernel_rfl) (by simp) ?_
              refine RG.cons rfl rfl (fun K' hK => ?_) RG.nil
              go_simp
              refine hK.out _ _ ⟨trivial, fun _ => ⟨H2.out.row, HR2.out⟩, fun _ => trivial⟩ (fun hS => ?_)
              clear hK K'
              try simp only [pL]
              clear hS
              obtain ⟨W2, hW2⟩ : ∃ W2, W2 = WD.alloc (.cells #[.int .i64 n.at_, .int .i64 (ytg : Int), .bool false, .int .i64 0] 65) := ⟨_, rfl⟩
              rw [← hW2] at H2 G2 RN HR2 ⊢
              obtain ⟨v', W3, hr, ho, hg, hl⟩ := app_at (w := W2) (t := 37) (e := 65) (size := 4) (bytes := 32) (z := .agg #[.int .i64 0, .int .i64 0, .bool false, .int .i64 0]) Try.underlying37 (by kernel_rfl) rfl (by decide) (by decide) B v2 _ _ H2.out.o2 _ _ RN.out rfl (by intro u hu; simp at hu; rcases hu with rfl | rfl | rfl | rfl <;> rfl) (by have := H2.out.sum; omega) (by have := (H2.out.lt _ H2.out.kb); (try simp only at this); omega) 37
              have r3 : RowB W3 b 40 #[v1, v2, v3] := (hg.block _ H2.out.row.lt (fun e => own_ne_row H2.out.o2 H2.out.row (by decide) e.symm)).trans H2.out.row
              have b3 : RowB W3 bu 65 #[.int .i64 n.at_, .int .i64 (ytg : Int), .bool false, .int .i64 0] := (hg.block _ HR2.out.lt (fun e => HUB.out (H2.out.k2 _ e.symm))).trans HR2.out
              have FIN := Lib.hid (H2.out.app2 (x := ⟨n.at_, (ytg : Int), false, 0⟩) ho hg hl)
              obtain ⟨A', c', rfl, _⟩ := own_shape ho
              have R3 := Lib.hid r3
              have B3 := Lib.hid b3
              clear ho hg hl r3 b3 hW2 H2 HR2 RN
              refine wpG_ready (rs := [7]) (by kernel_rfl) (by simp) ?_
              refine RG.cons rfl rfl (fun K' hK => ?_) RG.nil
              refine wp_append_run (.tmp 99) (.tmp 101) 37 (by rfl) (by rfl) (by rfl) hr ?_
              refine hK.out _ _ ⟨trivial, fun _ => ⟨R3.out, B3.out⟩, fun _ => trivial⟩ (fun hS => ?_)
              clear hK K'
              try simp only [pL]
              clear hr
              refine wpG_t0 (i := 8) (v := ?v76) rfl (by kernel_rfl) (fun _ _ _ h => h) hS (Or.inl ⟨by rfl, ?hy76⟩) ?rest76
              case hy76 => (intro w' hw; go_simp; try with_reducible rfl)
              replace hS := SG.set (i := 8) (by decide) (by decide) hS
              try simp only [pL]
              refine wpG_t0 (i := 9) (v := ?v77) rfl (by kernel_rfl) (fun _ _ _ h => h) hS (Or.inl ⟨by rfl, ?hy77⟩) ?rest77
              case hy77 => (intro w' hw; go_simp; try with_reducible rfl)
              replace hS := SG.set (i := 9) (by decide) (by decide) hS
              try simp only [pL]
              clear hS
              have yc := R3.out.cell
              have yt := R3.out.thaw
              refine wpG_ready (rs := [10]) (by kernel_rfl) (by simp) ?_
              refine RG.cons rfl rfl (fun K' hK => ?_) RG.nil
              go_simp
              refine hK.out _ _ ⟨trivial, fun h => absurd (h : true = false) (by decide), fun _ => trivial⟩ (fun hS => ?_)
              clear hK K'
              try simp only [pL]
              clear hS yc yt R3
              refine wpG_done (by kernel_rfl) ?_ _
              go_end0
              have em : mentionR n.at_ n.word false (R, L) = ⟨R.bs, R.ms ++ [⟨n.at_, (ytg : Int), false, 0⟩], R.bad⟩ := by
                exact mr_get HDF.out (by have := HK3.out; omega)
              exact ⟨rfl, _, _, _, _, by rw [em]; exact (FIN.out.1).mono (by omega), G2.out.trans FIN.out.2⟩
        | false =>
          have hzz : ¬ zw = n.word := fun e => by have := HBE.out.2 e; cases this
          have HD2 : Hid (look R.bs n.word L 0 = look R.bs n.word (L.drop p1) f) := by unfold Hid; rw [HD.out, HDD.out, if_neg hzz]
          clear hzz y0 y1
          go_wp2_with fail
          have hp1 := HP1.out
          have hf2 := HF2.out
          go_roundg (n0 - p1)
          case measure => omega
          case rel => exact ⟨p1, f, rfl, rfl, by omega, by omega, by omega, by omega, H1.out, G1.out, HR.out, HU.out, HD2.out⟩
    · have hpe : p = n0 := by omega
      have hqi : (n0 : Int) - 1 - (p : Int) = -1 := by omega
      rw [hqi]
      have HDF : Hid ((look R.bs n.word L 0).1 = -1) := by
        unfold Hid
        rw [HD.out, hpe, HN0.out, List.drop_length]
        rfl
      clear HD hqi hpe
      have y1 := HU.out.cell
      go_wp2_with fail
      clear y1
      have GT := Lib.hid G1.out
      replace G1 := Lib.hid (Gx.of (K := K) (Below.refl W1.heap.size W1))
      obtain ⟨W0, hW0⟩ : ∃ W0, W0 = W1 := ⟨_, rfl⟩
      have HW0 := Lib.hid hW0
      clear hW0
      refine wp_region_G (S := SG (fun _ => True) 12 (fun w' => RowB w' b 40 #[v1, v2, v3] ∧ RowB w' bx 25 #[.int .i64 n.kind, .int .i64 n.fro, .int .i64 n.til, .string n.word, .int .i64 n.at_, .slice A k c]) 99 (fun _ => True)) (by kernel_rfl) ⟨trivial, fun _ => ⟨H1.out.row, HR.out⟩, fun _ => trivial⟩ (fun hS => ?_)
      obtain ⟨WD, hWD⟩ : ∃ WD, WD = W1.drew := ⟨_, rfl⟩
      have H1 := Lib.hid (H1.out.drew)
      have G1 := Lib.hid (G1.out.trans (Gx.drew _ W1))
      replace HR := Lib.hid (show RowB W1.drew _ _ _ from HR.out)
      rw [← hWD] at hS H1 G1 HR ⊢
      clear hWD
      refine wpG_t1 (i := 0) (v := ?v1) rfl (by kernel_rfl) (fun _ _ _ h => h) hS (Or.inl ⟨by rfl, ?hy1⟩) ?rest1
      case hy1 => (intro w' hw; obtain ⟨_, q1, q2⟩ := hw; have u0 := q1.cell; have u1 := q2.cell; go_simp; try with_reducible rfl)
      replace hS := SG.set (i := 0) (by decide) (by decide) hS
      try simp only [pL]
      refine wpG_t1 (i := 1) (v := ?v2) rfl (by kernel_rfl) (fun _ _ _ h => h) hS (Or.inl ⟨by rfl, ?hy2⟩) ?rest2
      case hy2 => (intro w' hw; obtain ⟨_, q1, q2⟩ := hw; have u0 := q1.cell; have u1 := q2.cell; go_simp; try with_reducible rfl)
      replace hS := SG.set (i := 1) (by decide) (by decide) hS
      try simp only [pL]
      refine wpG_t1 (i := 2) (v := ?v3) rfl (by kernel_rfl) (fun _ _ _ h => h) hS (Or.inl ⟨by rfl, ?hy3⟩) ?rest3
      case hy3 => (intro w' hw; obtain ⟨_, q1, q2⟩ := hw; have u0 := q1.cell; have u1 := q2.cell; go_simp; try with_reducible rfl)
      replace hS := SG.set (i := 2) (by decide) (by decide) hS
      try simp only [pL]
      refine wpG_t1 (i := 3) (v := ?v4) rfl (by kernel_rfl) (fun _ _ _ h => h) hS (Or.inl ⟨by rfl, ?hy4⟩) ?rest4
      case hy4 => (intro w' hw; obtain ⟨_, q1, q2⟩ := hw; have u0 := q1.cell; have u1 := q2.cell; go_simp; try with_reducible rfl)
      replace hS := SG.set (i := 3) (by decide) (by decide) hS
      try simp only [pL]
      refine wpG_t1 (i := 4) (v := ?v5) rfl (by kernel_rfl) (fun _ _ _ h => h) hS (Or.inl ⟨by rfl, ?hy5⟩) ?rest5
      case hy5 => (intro w' hw; obtain ⟨_, q1, q2⟩ := hw; have u0 := q1.cell; have u1 := q2.cell; go_simp; try with_reducible rfl)
      replace hS := SG.set (i := 4) (by decide) (by decide) hS
      try simp only [pL]
      refine wpG_t1 (i := 5) (v := ?v6) rfl (by kernel_rfl) (fun _ _ _ h => h) hS (Or.inl ⟨by rfl, ?hy6⟩) ?rest6
      case hy6 => (intro w' hw; obtain ⟨_, q1, q2⟩ := hw; have u0 := q1.cell; have u1 := q2.cell; go_simp; try with_reducible rfl)
      replace hS := SG.set (i := 5) (by decide) (by decide) hS
      try simp only [pL]
      refine wpG_t1 (i := 6) (v := ?v7) rfl (by kernel_rfl) (fun _ _ _ h => h) hS (Or.inl ⟨by rfl, ?hy7⟩) ?rest7
      case hy7 => (intro w' hw; obtain ⟨_, q1, q2⟩ := hw; have u0 := q1.cell; have u1 := q2.cell; go_simp; try with_reducible rfl)
      replace hS := SG.set (i := 6) (by decide) (by decide) hS
      try simp only [pL]
      refine wpG_t1 (i := 7) (v := ?v8) rfl (by kernel_rfl) (fun _ _ _ h => h) hS (Or.inl ⟨by rfl, ?hy8⟩) ?rest8
      case hy8 => (intro w' hw; obtain ⟨_, q1, q2⟩ := hw; have u0 := q1.cell; have u1 := q2.cell; go_simp; try with_reducible rfl)
      replace hS := SG.set (i := 7) (by decide) (by decide) hS
      try simp only [pL]
      clear hS
      have H2 := Lib.hid (H1.out.alloc (.cells #[.int .i64 n.at_, .int .i64 30] 67))
      have G2 := Lib.hid (G1.out.trans (Gx.alloc _ WD (.cells #[.int .i64 n.at_, .int .i64 30] 67)))
      have RN := Lib.hid (RowB.new WD 67 #[.int .i64 n.at_, .int .i64 30])
      have HR2 := Lib.hid (HR.out.alloc (.cells #[.int .i64 n.at_, .int .i64 30] 67))
      refine wpG_ready (rs := [8]) (by kernel_rfl) (by simp) ?_
      refine RG.cons rfl rfl (fun K' hK => ?_) RG.nil
      go_simp
      refine hK.out _ _ ⟨trivial, fun _ => ⟨H2.out.row, HR2.out⟩, fun _ => trivial⟩ (fun hS => ?_)
      clear hK K'
      try simp only [pL]
      clear hS
      obtain ⟨W2, hW2⟩ : ∃ W2, W2 = WD.alloc (.cells #[.int .i64 n.at_, .int .i64 30] 67) := ⟨_, rfl⟩
      rw [← hW2] at H2 G2 RN HR2 ⊢
      obtain ⟨v', W3, hr, ho, hg, hl⟩ := app_at (w := W2) (t := 38) (e := 67) (size := 2) (bytes := 16) (z := .agg #[.int .i64 0, .int .i64 0]) Try.underlying38 (by kernel_rfl) rfl (by decide) (by decide) B v3 _ _ H2.out.o3 _ _ RN.out rfl (by intro u hu; simp at hu; rcases hu with rfl | rfl <;> rfl) (by have := H2.out.sum; omega) (by have := (H2.out.lt _ H2.out.kb); (try simp only at this); omega) 38
      have r3 : RowB W3 b 40 #[v1, v2, v3] := (hg.block _ H2.out.row.lt (fun e => own_ne_row H2.out.o3 H2.out.row (by decide) e.symm)).trans H2.out.row
      have b3 : RowB W3 bx 25 #[.int .i64 n.kind, .int .i64 n.fro, .int .i64 n.til, .string n.word, .int .i64 n.at_, .slice A k c] := (hg.block _ HR2.out.lt (fun e => own_ne_row H2.out.o3 HR2.out (by decide) e.symm)).trans HR2.out
      have FIN := Lib.hid (H2.out.app3 (x := (n.at_, 30)) ho hg hl)
      obtain ⟨A', c', rfl, _⟩ := own_shape ho
      have R3 := Lib.hid r3
      have B3 := Lib.hid b3
      clear ho hg hl r3 b3 hW2 H2 HR2 RN
      refine wpG_ready (rs := [9]) (by kernel_rfl) (by simp) ?_
      refine RG.cons rfl rfl (fun K' hK => ?_) RG.nil
      refine wp_append_run (.tmp 62) (.tmp 66) 38 (by rfl) (by rfl) (by rfl) hr ?_
      refine hK.out _ _ ⟨trivial, fun _ => ⟨R3.out, B3.out⟩, fun _ => trivial⟩ (fun hS => ?_)
      clear hK K'
      try simp only [pL]
      clear hr
      refine wpG_t0 (i := 10) (v := ?v9) rfl (by kernel_rfl) (fun _ _ _ h => h) hS (Or.inl ⟨by rfl, ?hy9⟩) ?rest9
      case hy9 => (intro w' hw; go_simp; try with_reducible rfl)
      replace hS := SG.set (i := 10) (by decide) (by decide) hS
      try simp only [pL]
      refine wpG_t0 (i := 11) (v := ?v10) rfl (by kernel_rfl) (fun _ _ _ h => h) hS (Or.inl ⟨by rfl, ?hy10⟩) ?rest10
      case hy10 => (intro w' hw; go_simp; try with_reducible rfl)
      replace hS := SG.set (i := 11) (by decide) (by decide) hS
      try simp only [pL]
      clear hS
      have yc := R3.out.cell
      have yt := R3.out.thaw
      refine wpG_ready (rs := [12]) (by kernel_rfl) (by simp) ?_
      refine RG.cons rfl rfl (fun K' hK => ?_) RG.nil
      go_simp
      refine hK.out _ _ ⟨trivial, fun h => absurd (h : true = false) (by decide), fun _ => trivial⟩ (fun hS => ?_)
      clear hK K'
      try simp only [pL]
      clear hS yc yt R3
      refine wpG_done (by kernel_rfl) ?_ _
      obtain ⟨R1, hR1⟩ : ∃ R1 : Rm, R1 = ⟨R.bs, R.ms, R.bad ++ [(n.at_, 30)]⟩ := ⟨_, rfl⟩
      rw [← hR1] at FIN
      have HR1 := Lib.hid hR1
      clear hR1 B3
      obtain ⟨v3, hv3'⟩ : ∃ v3, v3 = Value.slice A' (R.bad.length + 1) c' := ⟨_, rfl⟩
      obtain ⟨W1, hW1⟩ : ∃ W1, W1 = W3.setCell ⟨b, 2, none⟩ (.slice A' (R.bad.length + 1) c') := ⟨_, rfl⟩
      rw [← hW1] at FIN ⊢
      rw [← hv3'] at FIN
      have H1 := Lib.hid FIN.out.1
      replace G2 := Lib.hid (G2.out.trans FIN.out.2)
      rw [← HW0.out] at G2
      have HU := Lib.hid (G2.out.row (by rw [HW0.out]; exact HU.out) HUB.out)
      have HUB : Hid (¬ KU K v3 bu) := fun hk => by
        rcases G2.out.own bu hk with h1 | h1
        · exact HUB.out h1
        · have := HUS.out; rw [HW0.out] at h1; omega
      have G1 : Hid (Gx K w (KU K v3) W1) := GT.out.trans (by rw [← HW0.out]; exact G2.out)
      clear FIN G2 hW1 hv3' GT HW0
      go_wp2_with fail
      replace HR := HU
      refine wp_region_G (S := SG (fun _ => True) 10 (fun w' => RowB w' b 40 #[v1, v2, v3] ∧ RowB w' bu 65 #[.int .i64 n.at_, .int .i64 (-1), .bool wb, .int .i64 0]) 99 (fun _ => True)) (by kernel_rfl) ⟨trivial, fun _ => ⟨H1.out.row, HR.out⟩, fun _ => trivial⟩ (fun hS => ?_)
      obtain ⟨WD, hWD⟩ : ∃ WD, WD = W1.drew := ⟨_, rfl⟩
      have H1 := Lib.hid (H1.out.drew)
      have G1 := Lib.hid (G1.out.trans (Gx.drew _ W1))
      replace HR := Lib.hid (show RowB W1.drew _ _ _ from HR.out)
      rw [← hWD] at hS H1 G1 HR ⊢
      clear hWD
      refine wpG_t1 (i := 0) (v := ?v11) rfl (by kernel_rfl) (fun _ _ _ h => h) hS (Or.inl ⟨by rfl, ?hy11⟩) ?rest11
      case hy11 => (intro w' hw; obtain ⟨_, q1, q2⟩ := hw; have u0 := q1.cell; have u1 := q2.cell; go_simp; try with_reducible rfl)
      replace hS := SG.set (i := 0) (by decide) (by decide) hS
      try simp only [pL]
      refine wpG_t1 (i := 1) (v := ?v12) rfl (by kernel_rfl) (fun _ _ _ h => h) hS (Or.inl ⟨by rfl, ?hy12⟩) ?rest12
      case hy12 => (intro w' hw; obtain ⟨_, q1, q2⟩ := hw; have u0 := q1.cell; have u1 := q2.cell; go_simp; try with_reducible rfl)
      replace hS := SG.set (i := 1) (by decide) (by decide) hS
      try simp only [pL]
      refine wpG_t1 (i := 2) (v := ?v13) rfl (by kernel_rfl) (fun _ _ _ h => h) hS (Or.inl ⟨by rfl, ?hy13⟩) ?rest13
      case hy13 => (intro w' hw; obtain ⟨_, q1, q2⟩ := hw; have u0 := q1.cell; have u1 := q2.cell; go_simp; try with_reducible rfl)
      replace hS := SG.set (i := 2) (by decide) (by decide) hS
      try simp only [pL]
      refine wpG_t1 (i := 3) (v := ?v14) rfl (by kernel_rfl) (fun _ _ _ h => h) hS (Or.inl ⟨by rfl, ?hy14⟩) ?rest14
      case hy14 => (intro w' hw; obtain ⟨_, q1, q2⟩ := hw; have u0 := q1.cell; have u1 := q2.cell; go_simp; try with_reducible rfl)
      replace hS := SG.set (i := 3) (by decide) (by decide) hS
      try simp only [pL]
      refine wpG_t1 (i := 4) (v := ?v15) rfl (by kernel_rfl) (fun _ _ _ h => h) hS (Or.inl ⟨by rfl, ?hy15⟩) ?rest15
      case hy15 => (intro w' hw; obtain ⟨_, q1, q2⟩ := hw; have u0 := q1.cell; have u1 := q2.cell; go_simp; try with_reducible rfl)
      replace hS := SG.set (i := 4) (by decide) (by decide) hS
      try simp only [pL]
      refine wpG_t1 (i := 5) (v := ?v16) rfl (by kernel_rfl) (fun _ _ _ h => h) hS (Or.inl ⟨by rfl, ?hy16⟩) ?rest16
      case hy16 => (intro w' hw; obtain ⟨_, q1, q2⟩ := hw; have u0 := q1.cell; have u1 := q2.cell; go_simp; try with_reducible rfl)
      replace hS := SG.set (i := 5) (by decide) (by decide) hS
      try simp only [pL]
      clear hS
      have H2 := Lib.hid (H1.out.alloc (.cells #[.int .i64 n.at_, .int .i64 (-1), .bool wb, .int .i64 0] 65))
      have G2 := Lib.hid (G1.out.trans (Gx.alloc _ WD (.cells #[.int .i64 n.at_, .int .i64 (-1), .bool wb, .int .i64 0] 65)))
      have RN := Lib.hid (RowB.new WD 65 #[.int .i64 n.at_, .int .i64 (-1), .bool wb, .int .i64 0])
      have HR2 := Lib.hid (HR.out.alloc (.cells #[.int .i64 n.at_, .int .i64 (-1), .bool wb, .int .i64 0] 65))
      refine wpG_ready (rs := [6]) (by kernel_rfl) (by simp) ?_
      refine RG.cons rfl rfl (fun K' hK => ?_) RG.nil
      go_simp
      refine hK.out _ _ ⟨trivial, fun _ => ⟨H2.out.row, HR2.out⟩, fun _ => trivial⟩ (fun hS => ?_)
      clear hK K'
      try simp only [pL]
      clear hS
      obtain ⟨W2, hW2⟩ : ∃ W2, W2 = WD.alloc (.cells #[.int .i64 n.at_, .int .i64 (-1), .bool wb, .int .i64 0] 65) := ⟨_, rfl⟩
      rw [← hW2] at H2 G2 RN HR2 ⊢
      obtain ⟨v', W3, hr, ho, hg, hl⟩ := app_at (w := W2) (t := 37) (e := 65) (size := 4) (bytes := 32) (z := .agg #[.int .i64 0, .int .i64 0, .bool false, .int .i64 0]) Try.underlying37 (by kernel_rfl) rfl (by decide) (by decide) B v2 _ _ H2.out.o2 _ _ RN.out rfl (by intro u hu; simp at hu; rcases hu with rfl | rfl | rfl | rfl <;> rfl) (by have := H2.out.sum; omega) (by have := (H2.out.lt _ H2.out.kb); (try simp only at this); omega) 37
      have r3 : RowB W3 b 40 #[v1, v2, v3] := (hg.block _ H2.out.row.lt (fun e => own_ne_row H2.out.o2 H2.out.row (by decide) e.symm)).trans H2.out.row
      have b3 : RowB W3 bu 65 #[.int .i64 n.at_, .int .i64 (-1), .bool wb, .int .i64 0] := (hg.block _ HR2.out.lt (fun e => HUB.out (H2.out.k2 _ e.symm))).trans HR2.out
      have FIN := Lib.hid (H2.out.app2 (x := ⟨n.at_, (-1), wb, 0⟩) ho hg hl)
      obtain ⟨A', c', rfl, _⟩ := own_shape ho
      have R3 := Lib.hid r3
      have B3 := Lib.hid b3
      clear ho hg hl r3 b3 hW2 H2 HR2 RN
      refine wpG_ready (rs := [7]) (by kernel_rfl) (by simp) ?_
      refine RG.cons rfl rfl (fun K' hK => ?_) RG.nil
      refine wp_append_run (.tmp 99) (.tmp 101) 37 (by rfl) (by rfl) (by rfl) hr ?_
      refine hK.out _ _ ⟨trivial, fun _ => ⟨R3.out, B3.out⟩, fun _ => trivial⟩ (fun hS => ?_)
      clear hK K'
      try simp only [pL]
      clear hr
      refine wpG_t0 (i := 8) (v := ?v17) rfl (by kernel_rfl) (fun _ _ _ h => h) hS (Or.inl ⟨by rfl, ?hy17⟩) ?rest17
      case hy17 => (intro w' hw; go_simp; try with_reducible rfl)
      replace hS := SG.set (i := 8) (by decide) (by decide) hS
      try simp only [pL]
      refine wpG_t0 (i := 9) (v := ?v18) rfl (by kernel_rfl) (fun _ _ _ h => h) hS (Or.inl ⟨by rfl, ?hy18⟩) ?rest18
      case hy18 => (intro w' hw; go_simp; try with_reducible rfl)
      replace hS := SG.set (i := 9) (by decide) (by decide) hS
      try simp only [pL]
      clear hS
      have yc := R3.out.cell
      have yt := R3.out.thaw
      refine wpG_ready (rs := [10]) (by kernel_rfl) (by simp) ?_
      refine RG.cons rfl rfl (fun K' hK => ?_) RG.nil
      go_simp
      refine hK.out _ _ ⟨trivial, fun h => absurd (h : true = false) (by decide), fun _ => trivial⟩ (fun hS => ?_)
      clear hK K'
      try simp only [pL]
      clear hS yc yt R3
      refine wpG_done (by kernel_rfl) ?_ _
      go_end0
      have em : mentionR n.at_ n.word wb (R, L) = ⟨R1.bs, R1.ms ++ [⟨n.at_, (-1), wb, 0⟩], R1.bad⟩ := by
        rw [HR1.out]; unfold mentionR; dsimp only; rw [HDF.out, if_pos (by decide)]
      exact ⟨rfl, _, _, _, _, by rw [em]; exact (FIN.out.1).mono (by omega), G2.out.trans FIN.out.2⟩
end Sc
end Go.Proofs.Ytnefnnoleeeedaa
namespace Go.Proofs.Ytnefnnoleeeedaa
open Go.RowKit Go.Op
namespace Sc
open Vm
def WR (x : Rm × List Nm) : Prop := ∃ wn : List Int, wn.length = x.1.bs.length ∧ Wi wn x.1.bs.length x.2
theorem WR.bind {x : Rm × List Nm} (h : WR x) (a : Int) (wd : ByteArray) (kd it : Int) : WR (bindR a wd kd it x) := by
  obtain ⟨wn, h1, h2⟩ := h
  have hl : (bindR a wd kd it x).1.bs.length = x.1.bs.length + 1 := by unfold bindR; simp
  refine ⟨wn ++ [lc x.2], by rw [hl]; simp [h1], ?_⟩
  rw [hl]
  refine ⟨.inr ⟨by show x.1.bs.length < _; omega, ?_⟩, h2.ext ⟨_, rfl⟩ (by omega)⟩
  show (wn ++ [lc x.2])[x.1.bs.length]? = _
  rw [← h1, List.getElem?_append_right (Nat.le_refl _)]
  simp
theorem WR.begin {R : Rm} {L : List Nm} (h : WR (R, L)) (lam : Bool) : WR (R, ⟨0, true, lam⟩ :: L) := by
  obtain ⟨wn, h1, h2⟩ := h
  exact ⟨wn, h1, .inl rfl, h2⟩
theorem WR.mention {x : Rm × List Nm} (h : WR x) (a : Int) (wd : ByteArray) (wr : Bool) : WR (mentionR a wd wr x, x.2) := by
  obtain ⟨wn, h1, h2⟩ := h
  exact ⟨wn, by rw [mentionR_bs]; exact h1, by rw [mentionR_bs]; exact h2⟩
theorem WR.back {x y : Rm × List Nm} (h : WR x) (hb : x.1.bs.length ≤ y.1.bs.length) : WR (y.1, x.2) := by
  obtain ⟨wn, h1, h2⟩ := h
  refine ⟨wn ++ List.replicate (y.1.bs.length - x.1.bs.length) 0, by simp [h1]; omega, h2.ext ⟨_, rfl⟩ hb⟩
theorem bindR_len (a : Int) (wd : ByteArray) (kd it : Int) (x : Rm × List Nm) : (bindR a wd kd it x).1.bs.length = x.1.bs.length + 1 ∧ (bindR a wd kd it x).2.length = x.2.length + 1 := by
  unfold bindR
  simp
theorem bindsR_ok (kd it : Int) : ∀ (k : Tr) (x : Rm × List Nm), WR x → WR (bindsR kd it k x) ∧ x.1.bs.length ≤ (bindsR kd it k x).1.bs.length ∧ (bindsR kd it k x).2.length = x.2.length + k.len
  | .nil, x, h => by rw [bindsR, Tr.len]; exact ⟨h, Nat.le_refl _, rfl⟩
  | .cons hd k r, x, h => by
    rw [bindsR, Tr.len]
    obtain ⟨i1, i2, i3⟩ := bindsR_ok kd it r _ (h.bind hd.at_ hd.word kd it)
    obtain ⟨l1, l2⟩ := bindR_len hd.at_ hd.word kd it x
    exact ⟨i1, by omega, by omega⟩
mutual
theorem nodesR_ok (it : Int) : ∀ (k : Tr) (x : Rm × List Nm), WR x → WR (nodesR it k x) ∧ x.1.bs.length ≤ (nodesR it k x).1.bs.length ∧ (nodesR it k x).2.length ≤ x.2.length + k.cnt
  | .nil, x, h => by rw [nodesR]; exact ⟨h, Nat.le_refl _, by omega⟩
  | .cons hd k r, x, h => by
    rw [nodesR, Tr.cnt]
    have go : ∀ y : Rm × List Nm, WR y → x.1.bs.length ≤ y.1.bs.length → y.2.length ≤ x.2.length + k.cnt + 1 → WR (nodesR it r y) ∧ x.1.bs.length ≤ (nodesR it r y).1.bs.length ∧ (nodesR it r y).2.length ≤ x.2.length + (k.cnt + r.cnt + 1) := fun y h1 h2 h3 => by
      obtain ⟨i1, i2, i3⟩ := nodesR_ok it r y h1
      exact ⟨i1, by omega, by omega⟩
    split
    · exact go _ (h.mention _ _ _) (by rw [mentionR_bs]; exact Nat.le_refl _) (by show x.2.length ≤ _; omega)
    · split
      · obtain ⟨i1, i2, i3⟩ := nodesR_ok it k _ (h.mention hd.at_ hd.word true)
        rw [mentionR_bs] at i2
        exact go _ i1 i2 (by have : (mentionR hd.at_ hd.word true x, x.2).2.length = x.2.length := rfl; omega)
      · split
        · obtain ⟨i1, i2, i3⟩ := lamR_ok it true k x h
          exact go _ i1 i2 (by omega)
        · split
          · obtain ⟨i1, i2, i3⟩ := nodesR_ok it k _ (WR.begin (R := x.1) (L := x.2) h false)
            exact go _ (h.back i2) i2 (by show x.2.length ≤ _; omega)
          · split
            · obtain ⟨i1, i2, i3⟩ := nodesR_ok it k x h
              obtain ⟨l1, l2⟩ := bindR_len hd.at_ hd.word 4 it (nodesR it k x)
              exact go _ (i1.bind _ _ _ _) (by omega) (by omega)
            · obtain ⟨i1, i2, i3⟩ := nodesR_ok it k x h
              exact go _ i1 i2 (by omega)
theorem lamR_ok (it : Int) (lam : Bool) : ∀ (k : Tr) (x : Rm × List Nm), WR x → WR (lamR it lam k x) ∧ x.1.bs.length ≤ (lamR it lam k x).1.bs.length ∧ (lamR it lam k x).2.length = x.2.length
  | .cons _ kp (.cons _ _ (.cons hb kb .nil)), x, h => by
    rw [lamR]
    obtain ⟨i1, i2, i3⟩ := bindsR_ok 3 it kp _ (WR.begin (R := x.1) (L := x.2) h lam)
    obtain ⟨j1, j2, j3⟩ := nodesR_ok it kb _ (WR.begin (R := (bindsR 3 it kp (x.1, ⟨0, true, lam⟩ :: x.2)).1) (L := (bindsR 3 it kp (x.1, ⟨0, true, lam⟩ :: x.2)).2) i1 false)
    have hx : x.1.bs.length ≤ (nodesR it kb ((bindsR 3 it kp (x.1, ⟨0, true, lam⟩ :: x.2)).1, ⟨0, true, false⟩ :: (bindsR 3 it kp (x.1, ⟨0, true, lam⟩ :: x.2)).2)).1.bs.length := Nat.le_trans i2 j2
    exact ⟨h.back hx, hx, rfl⟩
  | .nil, x, h => by rw [lamR]; exact ⟨h, Nat.le_refl _, rfl⟩; all_goals (intros; simp_all)
  | .cons _ _ .nil, x, h => by rw [lamR]; exact ⟨h, Nat.le_refl _, rfl⟩; all_goals (intros; simp_all)
  | .cons _ _ (.cons _ _ .nil), x, h => by rw [lamR]; exact ⟨h, Nat.le_refl _, rfl⟩; all_goals (intros; simp_all)
  | .cons _ _ (.cons _ _ (.cons _ _ (.cons _ _ _))), x, h => by rw [lamR]; exact ⟨h, Nat.le_refl _, rfl⟩; all_goals (intros; simp_all)
end
end Sc
end Go.Proofs.Ytnefnnoleeeedaa
namespace Go.Proofs.Ytnefnnoleeeedaa
open Go.RowKit Go.Op
namespace Sc
open Vm
structure Nmd (b B : Nat) (w : World) (K : Nat → Prop) (y : Rm × List Nm) (N : Nat) (A : Option Addr) (n c : Nat) (w' : World) : Prop where
  len : n = y.2.length
  ex : ∃ K' v1 v2 v3 lo, Mr b B w' K' y.1 N v1 v2 v3 ∧ Gx K w K' w' ∧ NK w' K' lo A c y.2
theorem Nmd.named {b B : Nat} {w w0 : World} {K K0 : Nat → Prop} {y : Rm × List Nm} {N N' : Nat} {A : Option Addr} {n c : Nat} {w' : World} (h : Nmd b B w K y N A n c w') (g : Gx K0 w0 K w) (hN : N ≤ N') : Named b B w0 K0 y N' (.returned (.slice A n c)) w' := by
  obtain ⟨e, K', v1, v2, v3, lo, h1, h2, h3⟩ := h
  exact ⟨A, c, K', v1, v2, v3, lo, by rw [e], h1.mono hN, g.trans h2, h3⟩
def NodeR (b B : Nat) (it : Int) (h : Hi) (kk : Tr) : Prop := ∀ (w : World) (K : Nat → Prop) (R : Rm) (N : Nat) (v1 v2 v3 : Value) (lo : Nat) (AL : Option Addr) (cL : Nat) (L : List Nm) (A : Option Addr) (cap : Nat), Mr b B w K R N v1 v2 v3 → NK w K lo AL cL L → WR (R, L) → Gd (.cons h kk .nil) → L.length + (kk.cnt + 1) ≤ 10000000 → N + 4 * (kk.cnt + 1) ≤ 100000000 → TV w B kk A cap → B ≤ w.heap.size →
  Calls Try.prog 50 #[.pointer (some ⟨b, 0, none⟩), .slice AL L.length cL, hvv h A kk.len cap, .int .i64 it] w (Named b B w K (nodesR it (.cons h kk .nil) (R, L)) (N + 4 * (kk.cnt + 1)))
def TKR (b B : Nat) (it : Int) (k : Tr) : Prop := ∀ i h kk r, k.drop i = .cons h kk r → NodeR b B it h kk
theorem gd_drop : ∀ (k : Tr) (i : Nat) {h : Hi} {kk r : Tr}, Gd k → k.drop i = .cons h kk r → Gd (.cons h kk .nil)
  | .nil, i, h, kk, r, _, e => by rw [Tr.drop_nil] at e; cases e
  | .cons a b c, 0, h, kk, r, g, e => by
    rw [Tr.drop] at e
    injection e with e1 e2 e3
    subst e1 e2 e3
    rw [Gd] at g ⊢
    exact ⟨g.1, g.2.1, g.2.2.1, g.2.2.2.1, by rw [Gd]; trivial⟩
  | .cons a b c, i + 1, h, kk, r, g, e => by
    rw [Tr.drop] at e
    rw [Gd] at g
    exact gd_drop c i g.2.2.2.2 e
theorem nodesR_one (it : Int) (h : Hi) (k r : Tr) (x : Rm × List Nm) : nodesR it (.cons h k r) x = nodesR it r (nodesR it (.cons h k .nil) x) := by
  rw [nodesR, nodesR, nodesR]
structure LoopR (b B : Nat) (it : Int) (w : World) (K : Nat → Prop) (k : Tr) (x : Rm × List Nm) (N : Nat) (i : Nat) (A : Option Addr) (n c : Nat) (wr : World) : Prop where
  ex : ∃ (xi : Rm × List Nm) (Ni : Nat), Nmd b B w K xi Ni A n c wr ∧ WR xi ∧ nodesR it (k.drop i) xi = nodesR it k x ∧ Ni + 4 * (k.drop i).cnt ≤ N + 4 * k.cnt ∧ xi.2.length + (k.drop i).cnt ≤ x.2.length + k.cnt
variable {b B : Nat} {it : Int} {w wr : World} {K : Nat → Prop} {k : Tr} {x : Rm × List Nm} {N i n c : Nat} {A : Option Addr}
theorem LoopR.gx (h : LoopR b B it w K k x N i A n c wr) : ∃ Ki, Gx K w Ki wr := by
  obtain ⟨xi, Ni, ⟨_, Ki, v1, v2, v3, lo, _, h2, _⟩, _⟩ := h
  exact ⟨Ki, h2⟩
theorem LoopR.last (h : LoopR b B it w K k x N i A n c wr) (hi : k.len ≤ i) : Nmd b B w K (nodesR it k x) (N + 4 * k.cnt) A n c wr ∧ WR (nodesR it k x) := by
  obtain ⟨xi, Ni, h1, h2, h3, h4, h5⟩ := h
  rw [Tr.drop_len k i hi] at h3 h4
  rw [nodesR] at h3
  rw [← h3]
  obtain ⟨e, Ki, v1, v2, v3, lo, q1, q2, q3⟩ := h1
  exact ⟨⟨e, Ki, v1, v2, v3, lo, q1.mono (by simp only [Tr.cnt] at h4; omega), q2, q3⟩, h2⟩
theorem LoopR.call (hk : TKR b B it k) (hg : Gd k) (h : LoopR b B it w K k x N i A n c wr) (hN : N + 4 * k.cnt ≤ 100000000) (hL : x.2.length + k.cnt ≤ 10000000) (hB : B ≤ w.heap.size) {A0 : Option Addr} {cap0 : Nat} (ht : TV w B k A0 cap0) (hlt : ∀ g, K g → B ≤ g ∧ g < w.heap.size) (hi : i < k.len) :
    ∃ h' n2 g o A2 c2, A0 = some ⟨g, o, none⟩ ∧ wr.cell? ⟨g, o + i * 6, none⟩ = some (.int .i64 (Hi.kind h')) ∧ wr.cell? ⟨g, o + i * 6 + 1, none⟩ = some (.int .i64 h'.fro) ∧ wr.cell? ⟨g, o + i * 6 + 2, none⟩ = some (.int .i64 h'.til) ∧
      wr.cell? ⟨g, o + i * 6 + 3, none⟩ = some (.string h'.word) ∧ wr.cell? ⟨g, o + i * 6 + 4, none⟩ = some (.int .i64 h'.at_) ∧ wr.cell? ⟨g, o + i * 6 + 5, none⟩ = some (.slice A2 n2 c2) ∧
      Calls Try.prog 50 #[.pointer (some ⟨b, 0, none⟩), .slice A n c, hvv h' A2 n2 c2, .int .i64 it] wr fun e w' => ∃ A' n' c', e = .returned (.slice A' n' c') ∧ LoopR b B it w K k x N (i + 1) A' n' c' w' := by
  obtain ⟨⟨xR, xL⟩, Ni, ⟨e0, Ki, v1, v2, v3, lo, q1, q2, q3⟩, h2, h3, h4, h5⟩ := h
  simp only at e0 q1 q3 h4 h5
  obtain ⟨h', kk, e⟩ := Tr.drop_cons k i hi
  have hold := q2.old hlt hB
  obtain ⟨hword, g, o, A2, c2, rfl, hg', hkk, c0, c1, c2', c3, c4, c5⟩ := TV.nth (ht.keep hold) e
  have hcn : (k.drop i).cnt = kk.cnt + (k.drop (i + 1)).cnt + 1 := by rw [e, Tr.cnt]
  have hdc := Tr.drop_cnt k i
  refine ⟨h', _, g, o, A2, c2, rfl, c0, c1, c2', c3, c4, c5, ?_⟩
  subst e0
  refine (hk i h' kk _ e wr Ki xR Ni v1 v2 v3 lo A c xL A2 c2 q1 q3 h2 (gd_drop k i hg e) (by omega) (by omega) hkk (Nat.le_trans hB q2.size)).mono ?_
  rintro e2 w2 ⟨A', c', K', u1, u2, u3, lo', rfl, r1, r2, r3⟩
  obtain ⟨o1, o2, o3⟩ := nodesR_ok it (.cons h' kk .nil) (xR, xL) h2
  refine ⟨A', _, c', rfl, _, _, ⟨rfl, K', u1, u2, u3, lo', r1, q2.trans r2, r3⟩, o1, ?_, by omega, ?_⟩
  · rw [← h3, e, nodesR_one it h' kk (k.drop (i + 1)) (xR, xL)]
  · simp only [Tr.cnt] at o3
    omega
structure BindL (b B : Nat) (it : Int) (w : World) (K : Nat → Prop) (k : Tr) (x : Rm × List Nm) (N : Nat) (i : Nat) (A : Option Addr) (n c : Nat) (wr : World) : Prop where
  ex : ∃ (xi : Rm × List Nm) (Ni : Nat), Nmd b B w K xi Ni A n c wr ∧ WR xi ∧ bindsR 3 it (k.drop i) xi = bindsR 3 it k x ∧ Ni + 2 * (k.drop i).len ≤ N + 2 * k.len ∧ xi.2.length + (k.drop i).len = x.2.length + k.len
theorem BindL.last (h : BindL b B it w K k x N i A n c wr) (hi : k.len ≤ i) : Nmd b B w K (bindsR 3 it k x) (N + 2 * k.len) A n c wr ∧ WR (bindsR 3 it k x) := by
  obtain ⟨xi, Ni, h1, h2, h3, h4, h5⟩ := h
  rw [Tr.drop_len k i hi] at h3 h4
  rw [bindsR] at h3
  rw [← h3]
  obtain ⟨e, Ki, v1, v2, v3, lo, q1, q2, q3⟩ := h1
  exact ⟨⟨e, Ki, v1, v2, v3, lo, q1.mono (by simp only [Tr.len] at h4; omega), q2, q3⟩, h2⟩
theorem BindL.gx (h : BindL b B it w K k x N i A n c wr) : ∃ Ki, Gx K w Ki wr := by
  obtain ⟨xi, Ni, ⟨_, Ki, v1, v2, v3, lo, _, h2, _⟩, _⟩ := h
  exact ⟨Ki, h2⟩
theorem BindL.call (h : BindL b B it w K k x N i A n c wr) (hN : N + 2 * k.len ≤ 100000000) (hL : x.2.length + k.len ≤ 10000000) (hB : B ≤ w.heap.size) {A0 : Option Addr} {cap0 : Nat} (ht : TV w B k A0 cap0) (hlt : ∀ g, K g → B ≤ g ∧ g < w.heap.size) (hi : i < k.len) :
    ∃ h' n2 g o A2 c2, A0 = some ⟨g, o, none⟩ ∧ wr.cell? ⟨g, o + i * 6, none⟩ = some (.int .i64 (Hi.kind h')) ∧ wr.cell? ⟨g, o + i * 6 + 1, none⟩ = some (.int .i64 h'.fro) ∧ wr.cell? ⟨g, o + i * 6 + 2, none⟩ = some (.int .i64 h'.til) ∧
      wr.cell? ⟨g, o + i * 6 + 3, none⟩ = some (.string h'.word) ∧ wr.cell? ⟨g, o + i * 6 + 4, none⟩ = some (.int .i64 h'.at_) ∧ wr.cell? ⟨g, o + i * 6 + 5, none⟩ = some (.slice A2 n2 c2) ∧
      Calls Try.prog 25 #[.pointer (some ⟨b, 0, none⟩), .slice A n c, hvv h' A2 n2 c2, .int .i64 3, .int .i64 it] wr fun e w' => ∃ A' n' c', e = .returned (.slice A' n' c') ∧ BindL b B it w K k x N (i + 1) A' n' c' w' := by
  obtain ⟨⟨xR, xL⟩, Ni, ⟨e0, Ki, v1, v2, v3, lo, q1, q2, q3⟩, h2, h3, h4, h5⟩ := h
  simp only at e0 q1 q3 h4 h5
  obtain ⟨h', kk, e⟩ := Tr.drop_cons k i hi
  have hold := q2.old hlt hB
  obtain ⟨hword, g, o, A2, c2, rfl, hg', hkk, c0, c1, c2', c3, c4, c5⟩ := TV.nth (ht.keep hold) e
  have hcn : (k.drop i).len = (k.drop (i + 1)).len + 1 := by rw [e, Tr.len]
  refine ⟨h', _, g, o, A2, c2, rfl, c0, c1, c2', c3, c4, c5, ?_⟩
  subst e0
  obtain ⟨wn, _, hw⟩ := h2
  refine (bindr_any q1 q3 (by omega) wn hw h' A2 _ c2 3 it (by omega)).mono ?_
  rintro e2 w2 ⟨A', c', K', u1, u2, u3, lo', rfl, r1, r2, r3⟩
  refine ⟨A', _, c', rfl, _, _, ⟨rfl, K', u1, u2, u3, lo', r1, q2.trans r2, r3⟩, WR.bind ⟨wn, by assumption, hw⟩ _ _ _ _, ?_, by omega, ?_⟩
  · rw [← h3, e, bindsR]
  · rw [(bindR_len _ _ _ _ _).2]
    show xL.length + 1 + _ = _
    omega
def ClosedR (b B : Nat) (it : Int) (k : Tr) : Prop := ∀ (w : World) (K : Nat → Prop) (R : Rm) (N : Nat) (v1 v2 v3 : Value) (lo : Nat) (AL : Option Addr) (cL : Nat) (L : List Nm) (A : Option Addr) (cap : Nat) (lam : Bool), Mr b B w K R N v1 v2 v3 → NK w K lo AL cL L → WR (R, L) → Lm k → L.length + k.cnt ≤ 10000000 → N + 4 * k.cnt ≤ 100000000 → TV w B k A cap → B ≤ w.heap.size →
  Calls Try.prog 26 #[.pointer (some ⟨b, 0, none⟩), .slice AL L.length cL, .slice A k.len cap, .int .i64 it, .bool lam] w fun e w' => e = .returned (.tuple #[]) ∧ ∃ K' v1' v2' v3', Mr b B w' K' (lamR it lam k (R, L)).1 (N + 4 * k.cnt) v1' v2' v3' ∧ Gx K w K' w'
end Sc
end Go.Proofs.Ytnefnnoleeeedaa
namespace Go.Proofs.Ytnefnnoleeeedaa
open Go.RowKit Go.Op
namespace Sc
open Vm
set_option maxHeartbeats 16000000 in
set_option maxRecDepth 100000 in
theorem closedR_any {b B : Nat} {it : Int} (k : Tr) (hk : TKR b B it k) : ClosedR b B it k := by
  intro w K R N v1 v2 v3 lo AL cL L A cap lam h hl hw hlm hL hN ht hB
  match k, hlm with
  | .cons hp kp (.cons ht' kt (.cons hb kb .nil)), hlm =>
  rw [Lm] at hlm
  obtain ⟨_, _, _, h6, hgb⟩ := hlm
  obtain ⟨_, g, o, Ap, cp, rfl, hg, hkp, a0, a1, a2, a3, a4, a5⟩ := TV.nth (i := 0) ht rfl
  obtain ⟨_, g', o', Ab, cb, eA, _, hkb, b0, b1, b2, b3, b4, b5⟩ := TV.nth (i := 2) ht rfl
  injection eA with eA
  injection eA with e1 e2 _
  subst e1 e2
  have hcn : (Tr.cons hp kp (.cons ht' kt (.cons hb kb .nil))).cnt = kp.cnt + (kt.cnt + (kb.cnt + 0 + 1) + 1) + 1 := rfl
  rw [hcn] at hL hN ⊢
  have hln : (Tr.cons hp kp (.cons ht' kt (.cons hb kb .nil))).len = 3 := rfl
  rw [hln]
  have hkl := Tr.len_cnt kp
  have HT : Hid (∀ w', Old B w w' → TV w' B kp Ap cp ∧ TV w' B kb Ab cb ∧ w'.cell? ⟨g, o + 5, none⟩ = some (.slice Ap kp.len cp) ∧ w'.cell? ⟨g, o + 12, none⟩ = some (.int .i64 hb.kind) ∧ w'.cell? ⟨g, o + 12 + 1, none⟩ = some (.int .i64 hb.fro) ∧ w'.cell? ⟨g, o + 12 + 2, none⟩ = some (.int .i64 hb.til) ∧ w'.cell? ⟨g, o + 12 + 3, none⟩ = some (.string hb.word) ∧ w'.cell? ⟨g, o + 12 + 4, none⟩ = some (.int .i64 hb.at_) ∧ w'.cell? ⟨g, o + 12 + 5, none⟩ = some (.slice Ab kb.len cb)) := fun w' ho => by
    have hbk := ho g hg
    refine ⟨hkp.keep ho, hkb.keep ho, ?_, ?_, ?_, ?_, ?_, ?_, ?_⟩
    · exact (World.cell?_of_block (w := w) hbk).trans (by simpa using a5)
    · exact (World.cell?_of_block (w := w) hbk).trans (by simpa using b0)
    · exact (World.cell?_of_block (w := w) hbk).trans (by simpa using b1)
    · exact (World.cell?_of_block (w := w) hbk).trans (by simpa using b2)
    · exact (World.cell?_of_block (w := w) hbk).trans (by simpa using b3)
    · exact (World.cell?_of_block (w := w) hbk).trans (by simpa using b4)
    · exact (World.cell?_of_block (w := w) hbk).trans (by simpa using b5)
  have HLT := Lib.hid h.lt
  have HK2 := Lib.hid (hk 2 hb kb .nil rfl)
  have HGB : Hid (Gd (.cons hb kb .nil)) := by
    unfold Hid
    rw [Gd]
    exact ⟨by omega, by omega, by omega, by rw [if_neg (by omega)]; exact hgb, by rw [Gd]; trivial⟩
  have CB := Lib.hid (begin_any hl.1 (by omega) lam)
  have HL := Lib.hid hl
  have HM := Lib.hid h
  have HW := Lib.hid hw
  have HRES : Hid (lamR it lam (.cons hp kp (.cons ht' kt (.cons hb kb .nil))) (R, L) = ((nodesR it (.cons hb kb .nil) (bindsR 3 it kp (R, ⟨0, true, lam⟩ :: L))).1, L)) := by
    unfold Hid
    rw [lamR, nodesR, if_neg (by omega), if_neg (by omega), if_neg (by omega), if_pos h6, nodesR]
  obtain ⟨n0, hn0⟩ : ∃ n0, n0 = L.length := ⟨_, rfl⟩
  have HN0 := Lib.hid hn0
  rw [← hn0] at CB hL ⊢
  obtain ⟨np, hnp⟩ : ∃ np, np = kp.len := ⟨_, rfl⟩
  have HNP := Lib.hid hnp
  rw [← hnp] at HT hkl
  have hnp2 : np ≤ 10000000 := by omega
  have HNN := Lib.hid hN
  have HLL := Lib.hid hL
  have HKL := Lib.hid hkl
  have HB := Lib.hid hB
  clear h hl hw hk ht hgb hkp hkb a0 a1 a2 a3 a4 a5 b0 b1 b2 b3 b4 b5 hn0 hnp hL hN hcn hln hg hkl h6
  go_enter Try.func26, Try.ntmps26
  go_wp2_with fail
  refine CB.out.mono ?_
  rintro e w1 ⟨A1, c1, rfl, hn1, hb1⟩
  have hm1 := HM.out.below hb1
  have HR0 : Hid (BindL b B it w K kp (R, ⟨0, true, lam⟩ :: L) N 0 A1 (n0 + 1) c1 w1) := ⟨⟨_, N, ⟨by rw [HN0.out]; rfl, K, v1, v2, v3, _, hm1, Gx.of hb1, hn1, fun h0 a e hk => by
      obtain ⟨a', e', h1, h2, _⟩ := hn1.1 (by simp)
      rw [e] at e'
      injection e' with e'
      injection e' with e'
      subst e'
      have := (HLT.out a hk).2
      omega⟩, HW.out.begin lam, by rw [Tr.drop_zero], by rw [Tr.drop_zero]; exact Nat.le_refl _, by rw [Tr.drop_zero]⟩⟩
  have HW2 := Lib.hid (HW.out.begin lam)
  clear CB hm1 hn1 hb1 HM HL HW
  obtain ⟨n1, hn1⟩ : ∃ n1, n1 = n0 + 1 := ⟨_, rfl⟩
  rw [← hn1] at HR0 ⊢
  clear hn1
  go_wp2_with fail
  go_loopg [10, 11] (np + 1) (fun kx s10 s11 wr => ∃ (i : Nat) (Ai : Option Addr) (ni ci : Nat), s10 = .slice Ai ni ci ∧ s11 = .int .i64 i ∧ np - i ≤ kx ∧ i ≤ np ∧ Hid (BindL b B it w K kp (R, ⟨0, true, lam⟩ :: L) N i Ai ni ci wr))
  case atStart => exact ⟨0, A1, n1, c1, rfl, rfl, by omega, by omega, HR0.out⟩
  case round =>
    obtain ⟨i, Ai, ni, ci, rfl, rfl, hkx, hin, HR⟩ := hrel
    obtain ⟨Ki, hgx⟩ := HR.out.gx
    obtain ⟨hT1, hT2, t5, u0, u1, u2, u3, u4, u5⟩ := HT.out wr (hgx.old HLT.out HB.out)
    by_cases hi : i < np
    · have hil : (i : Int) < (np : Int) := by omega
      obtain ⟨h', n2, g2, o2, A2, c2, rfl, c0, c1', c2', c3, c4, c5, hcc⟩ := HR.out.call (by have := HNN.out; have := HKL.out; have := HNP.out; omega) (by show L.length + 1 + kp.len ≤ _; have := HLL.out; have := HKL.out; have := HNP.out; have := HN0.out; omega) HB.out (HT.out w (Old.refl _ _)).1 HLT.out (by rw [← HNP.out]; exact hi)
      obtain ⟨j, hj⟩ : ∃ j, j = i + 1 := ⟨_, rfl⟩
      have e1 : IntKind.i64.wrap ((i : Int) + 1) = (j : Int) := by rw [IntKind.wrap_i64]; omega
      rw [← hj] at hcc
      have HJ := Lib.hid hj
      have CC := Lib.hid hcc
      simp only [hvv] at CC
      clear hj hcc hT1 hT2 u0 u1 u2 u3 u4 u5 hgx HR HR0
      go_wp2_with fail
      refine CC.out.mono ?_
      rintro e w2 ⟨A', n', c', rfl, hr⟩
      have HR := Lib.hid hr
      clear hr CC c0 c1' c2' c3 c4 c5 t5
      go_wp2_with fail
      have hj := HJ.out
      go_roundg (np - j)
      case measure => omega
      case rel => exact ⟨j, A', n', c', rfl, rfl, by omega, by omega, HR.out⟩
    · have hd1 : decide ((i : Int) < (np : Int)) = false := decide_eq_false (by omega)
      obtain ⟨hl1, hl2⟩ := HR.out.last (by rw [← HNP.out]; omega)
      obtain ⟨_, _, hbl⟩ := bindsR_ok 3 it kp (R, ⟨0, true, lam⟩ :: L) HW2.out
      have HBL : Hid ((bindsR 3 it kp (R, ⟨0, true, lam⟩ :: L)).2.length = L.length + 1 + kp.len) := hbl
      obtain ⟨ee, Kx, x1, x2, x3, lo', q1, q2, q3⟩ := hl1
      obtain ⟨nb, hnb⟩ : ∃ nb, nb = kb.len := ⟨_, rfl⟩
      have CC := Lib.hid (HK2.out wr Kx (bindsR 3 it kp (R, ⟨0, true, lam⟩ :: L)).1 (N + 2 * kp.len) x1 x2 x3 lo' Ai ci (bindsR 3 it kp (R, ⟨0, true, lam⟩ :: L)).2 Ab cb q1 q3 hl2 HGB.out (by rw [HBL.out]; have := HLL.out; have := HKL.out; have := HNP.out; have := HN0.out; omega) (by have := HNN.out; have := HKL.out; have := HNP.out; omega) hT2 (Nat.le_trans HB.out q2.size))
      rw [← ee] at CC
      rw [← hnb] at CC u5
      have HQ := Lib.hid q2
      simp only [hvv] at CC
      clear hl2 hbl q1 q2 q3 ee hnb hT1 hT2 HR HR0 hgx
      go_wp2_with fail
      refine CC.out.mono ?_
      rintro e w2 ⟨A', c', K', y1, y2, y3, lo'', rfl, r1, r2, r3⟩
      have FE : Hid (∃ K' v1' v2' v3', Mr b B w2 K' (lamR it lam (.cons hp kp (.cons ht' kt (.cons hb kb .nil))) (R, L)).1 (N + 4 * (kp.cnt + (kt.cnt + (kb.cnt + 0 + 1) + 1) + 1)) v1' v2' v3' ∧ Gx K w K' w2) := ⟨K', y1, y2, y3, by rw [HRES.out]; exact r1.mono (by have := HKL.out; have := HNP.out; omega), HQ.out.trans r2⟩
      clear r1 r2 r3 CC HQ t5 u0 u1 u2 u3 u4 u5
      go_wp2_with fail
      go_end0
      exact ⟨rfl, FE.out⟩
end Sc
end Go.Proofs.Ytnefnnoleeeedaa
