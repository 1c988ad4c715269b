import Derived.Test.YthjflofcgdfekaaGreatDoorMBV
import Derived.Test.YthjflofcgdfekaaGreatDoorMBQ
namespace Go.Proofs.YthjflofcgdfekaaGreatDoor
open Go.RowKit Go.Op
namespace Pj
open Sc Od Og Su Ps Pg
open Sb (RowAt)
theorem app_none (w : World) : (Builtin.append_ #[68, 68] 68 #[.slice none 0 0, .slice none 0 0]).run Tryz.prog w = .ok (.slice none 0 0) w := by
  cases hi : Tryz.prog.info? 75 with
  | none => exact absurd (show (Tryz.prog.info? 75).isSome = true by kernel_rfl) (by rw [hi]; simp)
  | some i => simp [Builtin.append_, run_underlying Tryz.underlying68, sizeOf, typeInfo, hi, Builtin.lenOf, Builtin.firstCells]
theorem wpl_app68 (w : World) {ops : Array Oper} {rest : List Oper} {o : Oper} {a : Act} {Q : Exit → Act → World → Prop} (hgd : o.guard = none) (s x : Operand)
    (ho : o.op = .call { callee := .builtin .append, args := #[s, x], argTypes := #[68, 68] }) (ty : TypeId) (hty : o.type = ty) (vs vx : Value) (hs : a.eval s = vs) (hx : a.eval x = vx)
    (v' : Value) (w' : World) (hr : (Builtin.append_ #[68, 68] ty #[vs, vx]).run Tryz.prog w = .ok v' w') (h : wpList Tryz.prog ops Q rest (a.put o.dst v') w') : wpList Tryz.prog ops Q (o :: rest) a w := by
  subst hty
  exact Lib.wpList_append_run w hgd s x 68 68 ho vs vx hs hx v' w' hr h
set_option maxHeartbeats 16000000 in
set_option maxRecDepth 100000 in
theorem diags0 (u : Un) (lo p : Nat) (w : World) (l : List Tok) (hp : PV w lo p [u]) (hn : u.n = mainB) (hg : UGood lo w u l hd0 k0) :
    Calls Tryz.prog 24 #[.pointer (some ⟨p, 0, none⟩)] w fun e w' => (∃ A c, e = .returned (.slice A 0 c)) ∧ Below w.heap.size w w' := by
  have HP := Lib.hid hp
  have HG := Lib.hid hg
  have HN := Lib.hid hn
  obtain ⟨⟨A, c, hr, hrow⟩, _, _⟩ := hp
  obtain ⟨g1, eA, _, l1, k1⟩ := hrow (by simp)
  obtain ⟨v, hv⟩ : ∃ v, v = u := ⟨_, rfl⟩
  rw [← hv] at k1
  have HV := Lib.hid hv
  have e3 : v.n3 = 0 := by rw [hv, hg.n3, bad0]; rfl
  have e4 : v.bad = 0 := by rw [hv]; exact hg.zb.1
  have x0 := hr.cell 0
  have a0 : w.cell? ⟨g1, 0, none⟩ = some (.string v.n) := k1 0 v rfl 0 _ rfl
  have a1 : w.cell? ⟨g1, 1, none⟩ = _ := k1 0 v rfl 1 _ rfl
  have a2 : w.cell? ⟨g1, 2, none⟩ = _ := k1 0 v rfl 2 _ rfl
  have a3 : w.cell? ⟨g1, 3, none⟩ = _ := k1 0 v rfl 3 _ rfl
  have a4 : w.cell? ⟨g1, 4, none⟩ = _ := k1 0 v rfl 4 _ rfl
  have a5 : w.cell? ⟨g1, 5, none⟩ = _ := k1 0 v rfl 5 _ rfl
  have a6 : w.cell? ⟨g1, 6, none⟩ = _ := k1 0 v rfl 6 _ rfl
  have a7 : w.cell? ⟨g1, 7, none⟩ = _ := k1 0 v rfl 7 _ rfl
  have a8 : w.cell? ⟨g1, 8, none⟩ = _ := k1 0 v rfl 8 _ rfl
  have a9 : w.cell? ⟨g1, 9, none⟩ = _ := k1 0 v rfl 9 _ rfl
  have a10 : w.cell? ⟨g1, 10, none⟩ = _ := k1 0 v rfl 10 _ rfl
  have a11 : w.cell? ⟨g1, 11, none⟩ = _ := k1 0 v rfl 11 _ rfl
  have a12 : w.cell? ⟨g1, 12, none⟩ = _ := k1 0 v rfl 12 _ rfl
  have a13 : w.cell? ⟨g1, 13, none⟩ = _ := k1 0 v rfl 13 _ rfl
  obtain ⟨W3, hW3⟩ : ∃ W3, W3 = w.alloc (.cells (unC v).toArray 52) := ⟨_, rfl⟩
  have hb3 : Below w.heap.size w W3 := by rw [hW3]; exact belA w _
  have hg3 := hg.below hb3
  have hrow3 : RowAt W3 0 W3.heap.size bdC 4 v.A1 [b0] := by
    have := hg3.r1
    rw [bs0', ← hv] at this
    exact row_fin this (Nat.zero_le _) (Nat.le_refl _) fun _ _ _ _ => rfl
  have C58 := Lib.hid (wrong_none v [b0] (.pointer (some ⟨p, 0, none⟩)) W3 hrow3 (by rw [hv, hg3.n1, bs0']) e3 e4 (by simp) (by intro b hb; simp at hb; rw [hb]; decide))
  have HB3 := Lib.hid hb3
  have HW3 := Lib.hid hW3
  clear hg3 hrow3 hb3 hg hrow hr
  obtain ⟨xn, xx, xA, xln, xcp, xkd, xfr, xtl, xwd, xat, xB, xkl, xkc, xA1, xn1, xc1, xA2, xn2, xc2, xA3, xn3, xc3, xbad, xab⟩ := v
  simp only [unC] at a0 a1 a2 a3 a4 a5 a6 a7 a8 a9 a10 a11 a12 a13 C58 hW3 HW3
  subst e3 e4 eA
  clear hn k1 hv hW3
  go_enter Tryz.func24, Tryz.ntmps24
  go_wp2_with fail
  refine wp_loop_rounds 2 ?_
  rw [rounds_succ]
  go_wp2_with fail
  rw [← HW3.out]
  refine C58.out.mono ?_
  rintro e w4 ⟨rfl, hb4⟩
  have HB4 := Lib.hid (HB3.out.trans (hb4.mono HB3.out.size))
  have C59 := Lib.hid (entry0 u lo p w4 l (HP.out.below HB4.out) HN.out (HG.out.below HB4.out))
  have C26 := Lib.hid (fun W => Sd.sort_any none 0 [] W (fun h => absurd h (by simp)) (by simp))
  clear hb4 C58 HP HG HN HV
  have HP' : True := trivial
  go_wp2_with (at_builtin; refine wpl_app68 _ rfl _ _ rfl _ rfl _ _ rfl rfl _ _ (app_none _) ?_)
  rw [rounds_succ]
  go_wp2_with fail
  refine C59.out.mono ?_
  rintro e w5 ⟨rfl, hb5⟩
  have HB5 := Lib.hid (HB4.out.trans (hb5.mono HB4.out.size))
  clear hb5
  go_wp2_with fail
  refine (C26.out _).mono ?_
  rintro e w6 ⟨A', c', rfl, _, hb6⟩
  have HB6 := Lib.hid (HB5.out.trans (hb6.mono HB5.out.size))
  clear hb6
  go_wp2_with fail
  go_ret
  exact ⟨⟨_, _, rfl⟩, HB6.out⟩
end Pj
end Go.Proofs.YthjflofcgdfekaaGreatDoor
namespace Go.Proofs.YthjflofcgdfekaaGreatDoor
open Go.RowKit Go.Op
namespace Pj
open Sc Od Og Su Ps Pg Vm
open Sb (RowAt)
theorem name0 : rnameL mainB.data.toList = true := by kernel_rfl
theorem load0 (w : World) (hT : Tabs w) (hE : Errs w) (g : Nat) (hr : RowB w g 56 #[.string mainB, .string T0]) :
    Calls Tryz.prog 15 #[.slice (some ⟨g, 0, none⟩) 1 1] w fun e w' => Below w.heap.size w w' ∧ ∃ (u : Un) (p : Nat) (l : List Tok), e = .returned (.tuple #[.pointer (some ⟨p, 0, none⟩), .int .i64 0]) ∧ u.n = mainB ∧ PV w' w.heap.size p [u] ∧ UGood w.heap.size w' u l hd0 k0 := by
  have hv : RowV w mdC 2 (some ⟨g, 0, none⟩) [(mainB, T0)] := fun h0 => ⟨g, 0, rfl, hr.lt, fun i x hx j u hj => by
    have hi : i = 0 := by
      have := (List.getElem?_eq_some_iff.1 hx).1
      simp at this
      exact this
    subst hi
    simp at hx
    subst hx
    have := hr.cell j
    simp only [Nat.zero_mul, Nat.zero_add]
    rw [this]
    rw [← hj]
    simp [mdC]⟩
  refine (load_any (some ⟨g, 0, none⟩) 1 [(mainB, T0)] w hv (by intro m hm; simp at hm; subst hm; exact ⟨by decide, by decide⟩) (by simp) hT hE).mono ?_
  rintro e w' ⟨us, hus, hb, hq⟩
  obtain ⟨u, rfl⟩ : ∃ u, us = [u] := by
    have := congrArg List.length hus
    simp at this
    exact List.length_eq_one_iff.1 this
  simp at hus
  have hn : u.n = mainB := congrArg Prod.fst hus
  have hx : u.x = T0 := congrArg Prod.snd hus
  rcases hq with ⟨h8, _⟩ | ⟨l', hst, _, hq⟩
  · simp at h8
  obtain rfl : l' = [u] := List.perm_singleton.1 hst.perm
  have hc : chk none [u] = 0 := by
    rw [chk, hn, name0]
    simp [chk]
  rcases hq with ⟨h, _⟩ | ⟨_, p, rfl, hp⟩
  · exact absurd hc h
  obtain ⟨l, hl⟩ := T0_of
  have hok := hp.ok u (by simp)
  unfold UOk at hok
  rw [hx, hl] at hok
  exact ⟨hb, u, p, l, rfl, hn, hp, hok⟩
set_option maxHeartbeats 16000000 in
set_option maxRecDepth 100000 in
theorem awake_any (w : World) (hT : Tabs w) (hE : Errs w) : Calls Tryz.prog 14 #[] w fun e w' => e = .returned (.bool true) ∧ Below w.heap.size w w' := by
  have hB : Below w.heap.size w (w.alloc (.cells #[.string mainB, .string T0] 56)) := belA w _
  have C15 := Lib.hid (load0 (w.alloc (.cells #[.string mainB, .string T0] 56)) (Tabs.step hT hB) (hE.below hB) w.heap.size (RowB.new w 56 _))
  have HB := Lib.hid hB
  clear hB hT hE
  go_enter Tryz.func14, Tryz.ntmps14
  go_wp2_with fail
  refine C15.out.mono ?_
  rintro e w2 ⟨hb, u, p, l, rfl, hn, hp, hg⟩
  have CU := Lib.hid (unit_any [u] mainB _ p w2 hp (by simp))
  have HN := Lib.hid hn
  have HP := Lib.hid hp
  have HG := Lib.hid hg
  have HB2 := Lib.hid (HB.out.trans (hb.mono HB.out.size))
  clear hn hp hg hb C15
  go_wp2_with fail
  refine CU.out.mono ?_
  rintro e w3 ⟨hb, hq⟩
  clear CU
  obtain ⟨v, hv, rfl⟩ : ∃ v, FndU [u] mainB v ∧ e = .returned (.tuple #[.agg (unC v).toArray, .bool true]) := by
    rcases hq with h | ⟨hno, _⟩
    · exact h
    · exact absurd HN.out (hno u (by simp))
  clear hq
  obtain rfl : v = u := by
    obtain ⟨i, hi, _, _⟩ := hv
    rw [List.getElem?_singleton] at hi
    split at hi
    · injection hi with hi; exact hi.symm
    · cases hi
  clear hv
  have hkd : v.kd = 1 := by
    have := congrArg Hi.kind HG.out.hd
    exact this.symm
  obtain ⟨W4, hW4⟩ : ∃ W4, W4 = w3.alloc (.cells (unC v).toArray 52) := ⟨_, rfl⟩
  have hb4 : Below w3.heap.size w3 W4 := by rw [hW4]; exact belA w3 _
  have hr4 : RowB W4 w3.heap.size 52 (unC v).toArray := by rw [hW4]; exact RowB.new _ _ _
  have C24 := Lib.hid (diags0 v _ p W4 l ((HP.out.below hb).below hb4) HN.out ((HG.out.below hb).below hb4))
  have HB4 := Lib.hid (HB2.out.trans ((hb.trans (hb4.mono hb.size)).mono HB2.out.size))
  have HR4 := Lib.hid hr4
  have HW4 := Lib.hid hW4
  clear HP HG HN
  obtain ⟨xn, xx, xA, xln, xcp, xkd, xfr, xtl, xwd, xat, xB, xkl, xkc, xA1, xn1, xc1, xA2, xn2, xc2, xA3, xn3, xc3, xbad, xab⟩ := v
  simp only [unC] at *
  subst hkd
  clear hb4 hr4 hW4 hb
  go_wp2_with fail
  rw [← HW4.out]
  refine C24.out.mono ?_
  rintro e w5 ⟨⟨A5, c5, rfl⟩, hb5⟩
  have y3 := (HR4.out.below hb5 HR4.out.lt).cell
  have HB5 := Lib.hid (HB4.out.trans (hb5.mono HB4.out.size))
  clear hb5 C24 HR4 HW4 HB4
  go_wp2_with fail
  go_ret
  exact ⟨rfl, HB5.out⟩
end Pj
end Go.Proofs.YthjflofcgdfekaaGreatDoor
namespace Go.Proofs.YthjflofcgdfekaaGreatDoor
open Go.RowKit Go.Op
namespace Sd
open Sc Vm Od Og
open Sb (RowAt sgn)
structure WantL (w : World) (l : List Dg) (i : Nat) (A : Option Addr) (n c : Nat) (wr : World) : Prop where
  own : wr.ownsRow w.heap.size 78 3 (.slice A n c) n ((l.take i).flatMap dgC)
  be : Below w.heap.size w wr
  nn : n = i
theorem WantL.next {w wr : World} {l : List Dg} {i : Nat} {A : Option Addr} {n c : Nat} (h : WantL w l i A n c wr) {x : Dg} (hx : l[i]? = some x) (hi : i ≤ 1000000) :
    ∃ A' c' w', AppR 70 (.slice A n c) (.slice (some ⟨wr.heap.size + 1, 0, none⟩) 1 1) ((wr.alloc (.cells #[.string x.1, .int .i64 x.2.1, .int .i64 x.2.2] 75)).alloc (.cells #[.string x.1, .int .i64 x.2.1, .int .i64 x.2.2] 78)) (.slice A' (n + 1) c') w' ∧ WantL w l (i + 1) A' (n + 1) c' w' := by
  obtain ⟨W1, hW1⟩ : ∃ W1, W1 = wr.alloc (.cells #[.string x.1, .int .i64 x.2.1, .int .i64 x.2.2] 75) := ⟨_, rfl⟩
  have s1 : W1.heap.size = wr.heap.size + 1 := by rw [hW1]; simp
  obtain ⟨W2, hW2⟩ : ∃ W2, W2 = W1.alloc (.cells #[.string x.1, .int .i64 x.2.1, .int .i64 x.2.2] 78) := ⟨_, rfl⟩
  have RN : RowB W2 (wr.heap.size + 1) 78 #[.string x.1, .int .i64 x.2.1, .int .i64 x.2.2] := by
    have := RowB.new W1 78 #[.string x.1, .int .i64 x.2.1, .int .i64 x.2.2]
    rw [s1, ← hW2] at this
    exact this
  have B2 : Below w.heap.size w W2 := by rw [hW2, hW1]; exact (h.be.alloc h.be.size _).alloc (by have := h.be.size; simp; omega) _
  have ho : W2.ownsRow w.heap.size 78 3 (.slice A n c) n ((l.take i).flatMap dgC) := by
    refine own_block h.own fun g e => ?_
    have hg := (h.own.lt g e).2
    rw [hW2, hW1]
    exact (Below.heap_alloc _ _ g (by simp; omega)).trans (Below.heap_alloc _ _ g hg)
  obtain ⟨v', w', r1, r2, r3, _⟩ := app_at (w := W2) (t := 70) (e := 78) (size := 3) (bytes := 32) (by kernel_rfl) info67 rfl (by decide) (by decide) w.heap.size _ _ _ ho _ _ RN rfl (by intro u hu; simp at hu; rcases hu with rfl | rfl | rfl <;> rfl) (by have := h.nn; omega) B2.size 70
  obtain ⟨A', c', rfl, _⟩ := own_shape r2
  refine ⟨A', c', w', ⟨by rw [← hW1, ← hW2]; exact r1⟩, ?_, grown_below B2 ho r3, by rw [h.nn]⟩
  have e1 : l.take (i + 1) = l.take i ++ [x] := by
    obtain ⟨hi', hxe⟩ := List.getElem?_eq_some_iff.1 hx
    rw [List.take_succ_eq_append_getElem hi', hxe]
  rw [e1, List.flatMap_append]
  simpa [dgC] using r2
set_option maxHeartbeats 16000000 in
set_option maxRecDepth 100000 in
theorem sorts_walk (A : Option Addr) (c : Nat) (l : List Dg) (w : World) (h : RowV w dgC 3 A l) (AW : ∀ W, Below w.heap.size w W → Calls Tryz.prog 14 #[] W fun e w' => e = .returned (.bool true) ∧ Below W.heap.size W w') :
    Calls Tryz.prog 6 #[.slice A l.length c] w fun e w' => e = .returned (.bool true) ∧ Below w.heap.size w w' := by
  have HA := Lib.hid h
  have AWH := Lib.hid AW
  obtain ⟨n, hn⟩ : ∃ n, n = l.length := ⟨_, rfl⟩
  have HN := Lib.hid hn
  rw [← hn]
  clear h hn AW
  by_cases hl : n > 200
  · have hlz : (n : Int) > 200 := by omega
    clear hl
    go_enter Tryz.func6, Tryz.ntmps6
    go_wp2_with fail
    refine (AWH.out _ (Below.refl _ _)).mono ?_
    rintro e w1 ⟨rfl, hb⟩
    have HB := Lib.hid hb
    clear hb
    go_wp2_with fail
    go_ret
    exact ⟨rfl, HB.out⟩
  · have hlz : ¬ (n : Int) > 200 := by omega
    have hn2 : n ≤ 200 := by omega
    have HW0 : Hid (WantL w l 0 none 0 0 w) := ⟨World.ownsRow_nil _ _ _ _, Below.refl _ _, rfl⟩
    clear hl
    go_enter Tryz.func6, Tryz.ntmps6
    go_wp2_with fail
    clear hlz
    go_loopg [3, 12] (n + 1) (fun kx s3 s12 wr => ∃ (i : Nat) (Ai : Option Addr) (ci : Nat), s3 = .slice Ai i ci ∧ s12 = .int .i64 i ∧ n - i ≤ kx ∧ i ≤ n ∧ Hid (WantL w l i Ai i ci wr))
    case atStart => exact ⟨0, none, 0, rfl, rfl, by omega, by omega, HW0.out⟩
    case round =>
      clear HW0
      obtain ⟨i, Ai, ci, rfl, rfl, hkx, hin, HR⟩ := hrel
      by_cases hi : i < n
      · have hil : (i : Int) < (n : Int) := by omega
        obtain ⟨x, hx⟩ : ∃ x, l[i]? = some x := ⟨l[i]'(by rw [← HN.out]; exact hi), List.getElem?_eq_getElem _⟩
        obtain ⟨b1, o1, rfl, l1, k1⟩ := HA.out.below HR.out.be (by rw [← HN.out]; omega)
        have a0 : wr.cell? ⟨b1, o1 + i * 3, none⟩ = some (.string x.1) := k1 i x hx 0 _ rfl
        have a1 := k1 i x hx 1 _ rfl
        have a2 := k1 i x hx 2 _ rfl
        obtain ⟨A', c', w', r1, r2⟩ := HR.out.next hx (by omega)
        obtain ⟨x1, x2, x3⟩ := x
        simp only at a0 a1 a2 r1
        obtain ⟨j, hj⟩ : ∃ j, j = i + 1 := ⟨_, rfl⟩
        have e1 : IntKind.i64.wrap ((i : Int) + 1) = (j : Int) := by rw [IntKind.wrap_i64]; omega
        have HJ := Lib.hid hj
        rw [← hj] at r1 r2
        have R1 := Lib.hid r1
        have R2 := Lib.hid r2
        clear k1 hx hj r1 r2 HR
        go_wp2_with (at_builtin; refine wpl_app _ rfl _ _ rfl _ rfl _ _ rfl rfl _ _ R1.out ?_)
        have hj := HJ.out
        go_roundg (n - j)
        case measure => omega
        case rel => exact ⟨j, A', c', rfl, rfl, by omega, by omega, R2.out⟩
      · have hd1 : decide ((i : Int) < (n : Int)) = false := decide_eq_false (by omega)
        have hin2 : i = n := by omega
        have hown := HR.out.own
        have htk : l.take i = l := List.take_of_length_le (by rw [← HN.out, hin2]; exact Nat.le_refl _)
        rw [htk, hin2] at hown
        have HBE := Lib.hid HR.out.be
        have hrow : RowV wr dgC 3 Ai l := RowV.of (RowAt.of_own hown dgC_len HN.out) (Nat.le_refl _)
        have HROW := Lib.hid hrow
        have HLL : Hid (l.length ≤ 200) := by rw [← HN.out]; exact hn2
        rw [hin2]
        clear hown htk hrow hi
        have AW1 := Lib.hid (AWH.out _ HBE.out)
        clear AWH HR
        go_wp2_with fail
        refine AW1.out.mono ?_
        rintro e w1 ⟨rfl, hb⟩
        have HB1 := Lib.hid (HBE.out.trans (hb.mono HBE.out.size))
        have C26 := Lib.hid (sort_any A c l w1 (HA.out.below HB1.out) (by have := HLL.out; omega))
        have HR1 := Lib.hid (HROW.out.below hb)
        rw [← HN.out] at C26
        clear hb AW1
        go_wp2_with fail
        refine C26.out.mono ?_
        rintro e w2 ⟨A2, c2, rfl, hrow2, hb2⟩
        have C27 := Lib.hid (rsort_any Ai ci l w2 (HR1.out.below hb2) (by have := HLL.out; omega))
        rw [← HN.out] at C27
        have HROW2 := Lib.hid hrow2
        have HB2 := Lib.hid (HB1.out.trans (hb2.mono HB1.out.size))
        clear hrow2 hb2 C26 HR1
        go_wp2_with fail
        refine C27.out.mono ?_
        rintro e w3 ⟨A3, c3, rfl, hrow3, hb3⟩
        have hlen : (sortI cd [] l).length = n := by rw [(sortI_st ordD l).len, HN.out]
        have C23 := Lib.hid (diags_same (sortI cd [] l) A2 A3 c2 c3 w3 (RowV.below (RowV.of HROW2.out (Nat.le_refl _)) hb3) (RowV.of hrow3 (Nat.le_refl _)) (by rw [hlen]; have := HLL.out; have := HN.out; omega))
        rw [hlen] at C23
        have HB3 := Lib.hid (HB2.out.trans (hb3.mono HB2.out.size))
        clear hrow3 hb3 C27 HROW2
        go_wp2_with fail
        refine C23.out.mono ?_
        rintro e w4 ⟨rfl, hb4⟩
        have HB4 := Lib.hid (HB3.out.trans (hb4.mono HB3.out.size))
        clear hb4 C23
        go_wp2_with fail
        go_ret
        exact ⟨rfl, HB4.out⟩
end Sd
end Go.Proofs.YthjflofcgdfekaaGreatDoor
