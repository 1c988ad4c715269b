/- Contracts: the document's answer for package delta: how many units two lists can keep. -/
import Derived.Test.YthbmnnnlkgbieaaGreatDoorMC1
import Derived.Test.YthbmnnnlkgbieaaGreatDoorMA1
import Derived.Test.YthbmnnnlkgbieaaGreatDoorPQ2
namespace Go.Proofs.YthbmnnnlkgbieaaGreatDoor
open Go.RowKit Go.Op

/-- The step of the rows, of strings. -/
theorem pre_bs {a b : List ByteArray} {i j : Nat} (hi : i < a.length) (hj : j < b.length) {z : Bool} {mx : Nat} (hm : mx = max (Dl.pre (bs a) (bs b) (i + 1) j) (Dl.pre (bs a) (bs b) i (j + 1)))
    (hz : z = true ↔ (a[i] = b[j] ∧ mx < Dl.pre (bs a) (bs b) i j + 1)) :
    Dl.pre (bs a) (bs b) (i + 1) (j + 1) = if z = true then Dl.pre (bs a) (bs b) i j + 1 else mx := by
  have h := Dl.pre_row (a := bs a) (b := bs b) (i := i) (j := j) (by rw [bs_len]; exact hi) (by rw [bs_len]; exact hj)
  rw [h, ← hm]
  have e : ((bs a)[i]'(by rw [bs_len]; exact hi) = (bs b)[j]'(by rw [bs_len]; exact hj)) ↔ a[i] = b[j] := by
    simp only [bs, List.getElem_map]
    exact ⟨byt_inj, fun h => by rw [h]⟩
  by_cases hc : a[i] = b[j] ∧ mx < Dl.pre (bs a) (bs b) i j + 1
  · rw [if_pos ⟨e.2 hc.1, hc.2⟩, if_pos (hz.2 hc)]
  · rw [if_neg (fun x => hc ⟨e.1 x.1, x.2⟩), if_neg (fun x => hc (hz.1 x))]

set_option maxHeartbeats 8000000 in
set_option maxRecDepth 100000 in
theorem most_any (la lb : List ByteArray) (A B : Option Addr) (ca cb : Nat) (w : World) (hA : Strs w w.heap.size A la) (hB : Strs w w.heap.size B lb) (hla : la.length ≤ 8000) (hlb : lb.length ≤ 8000) (_hca : la.length ≤ ca) (_hcb : lb.length ≤ cb) :
    Calls Tryz.prog 13 #[.slice A la.length ca, .slice B lb.length cb] w fun e w' => e = .returned (.int .i64 (Dl.lcs (bs la) (bs lb) : Nat)) ∧ Below w.heap.size w w' := by
  obtain ⟨i0, hi0, hz0, hz1, hz2⟩ := info_parts info3
  have hmk : ∀ u : World, (Instr.makeSlice 76 (.int .i64 ((lb.length : Int) + 1)) (.int .i64 ((lb.length : Int) + 1))).run Tryz.prog u = .ok (.slice (some ⟨u.heap.size, 0, none⟩) (lb.length + 1) (lb.length + 1)) (u.alloc (.cells (madeCells (Value.int .i64 0).cells (lb.length + 1)) 3)) := fun u => by
    have := run_make (P := Tryz.prog) u 76 3 i0 _ Tryz.underlying76 hi0 hz0 .i64 .i64 ((lb.length + 1 : Nat) : Int) ((lb.length + 1 : Nat) : Int) (by omega) (Int.le_refl _) (by rw [hz2]; omega) (by omega)
    simpa [hz1] using this
  have hRs := size_madeCells (Value.int .i64 0).cells (lb.length + 1)
  have hR0 : Hid (∀ t, t ≤ lb.length → (madeCells (Value.int .i64 0).cells (lb.length + 1))[t]? = some (.int .i64 0)) := fun t ht => by
    unfold madeCells
    rw [Array.getElem?_map, Array.getElem?_range, if_pos (by omega)]
    have e : t % (Value.int .i64 0).cells.size = 0 := Nat.mod_one t
    simp only [Option.map_some]
    rw [e]
    rfl
  generalize madeCells (Value.int .i64 0).cells (lb.length + 1) = R0 at *
  have HA := Lib.hid hA
  have HB := Lib.hid hB
  have HP0 : Hid (∀ t, Dl.pre (bs la) (bs lb) 0 t = 0) := fun t => Dl.pre_zero_left _ _ t
  have HP1 : Hid (∀ i, Dl.pre (bs la) (bs lb) i 0 = 0) := fun i => Dl.pre_zero_right _ _ i
  have HPA : Hid (Dl.pre (bs la) (bs lb) la.length lb.length = Dl.lcs (bs la) (bs lb)) := by
    have := Dl.pre_all (bs la) (bs lb)
    rwa [bs_len, bs_len] at this
  have HPL : Hid (∀ i j, Dl.pre (bs la) (bs lb) i j ≤ 8000) := fun i j => by
    have := Dl.lcs_le_left ((bs la).take i) ((bs lb).take j)
    have h2 : ((bs la).take i).length ≤ 8000 := by rw [List.length_take, bs_len]; omega
    exact Nat.le_trans this h2
  have HST : Hid (∀ (i j : Nat) (hi : i < la.length) (hj : j < lb.length) (z : Bool) (mx : Nat), mx = max (Dl.pre (bs la) (bs lb) (i + 1) j) (Dl.pre (bs la) (bs lb) i (j + 1)) → (z = true ↔ (la[i] = lb[j] ∧ mx < Dl.pre (bs la) (bs lb) i j + 1)) → Dl.pre (bs la) (bs lb) (i + 1) (j + 1) = if z = true then Dl.pre (bs la) (bs lb) i j + 1 else mx) := fun i j hi hj z mx h1 h2 => pre_bs hi hj h1 h2
  generalize Dl.pre (bs la) (bs lb) = q at *
  generalize Dl.lcs (bs la) (bs lb) = res at *
  have e1 : IntKind.i64.wrap ((lb.length : Int) + 1) = (lb.length : Int) + 1 := by rw [IntKind.wrap_i64]; omega
  have HN0 : Hid (RowB (w.alloc (.cells R0 3)) w.heap.size 3 R0) := RowB.new w 3 R0
  have HBL0 := Lib.hid (bel1 w (.cells R0 3))
  clear hA hB hz0 hz1 hz2 hi0
  go_enter Tryz.func13, Tryz.ntmps13
  go_wp2_with fail
  go_loopg [5, 6] (la.length + 1) (fun kx v x wr => ∃ (i bl : Nat) (L : Array Value), v = .slice (some ⟨bl, 0, none⟩) (lb.length + 1) (lb.length + 1) ∧ x = .int .i64 i ∧ i ≤ la.length ∧ la.length - i ≤ kx ∧ w.heap.size ≤ bl ∧ L.size = lb.length + 1 ∧ Hid (∀ t, t ≤ lb.length → L[t]? = some (.int .i64 (q i t : Nat))) ∧ Hid (RowB wr bl 3 L) ∧ Hid (Below w.heap.size w wr))
  case atStart => exact ⟨0, w.heap.size, R0, rfl, rfl, by omega, by omega, by omega, hRs, fun t ht => by rw [HP0.out]; exact hR0.out t ht, HN0.out, HBL0.out⟩
  case round =>
    obtain ⟨i, bl, L, rfl, rfl, hi, hkx, hbl, hLs, HL, HRL, HBW⟩ := hrel
    by_cases hlt : i < la.length
    · have hww := HBW.out.size
      have HRL2 := Lib.hid (HRL.out.alloc (.cells R0 3))
      have HRN := Lib.hid (RowB.new wr 3 R0)
      have HBW2 := Lib.hid (HBW.out.alloc hww (.cells R0 3))
      have hlw := HRL.out.lt
      have hbr : ∃ br, wr.heap.size = br := ⟨_, rfl⟩
      obtain ⟨br, hbr⟩ := hbr
      have hne : br ≠ bl := by omega
      have hbr2 : w.heap.size ≤ br := by omega
      have hi1 : (i : Int) < (la.length : Int) := by omega
      go_wp2_with fail
      rw [hbr] at HRN
      try rw [hbr]
      go_loopg [8] (lb.length + 1) (fun kx2 v wr2 => ∃ (j : Nat) (R : Array Value), v = .int .i64 j ∧ j ≤ lb.length ∧ lb.length - j ≤ kx2 ∧ R.size = lb.length + 1 ∧ Hid (∀ t, t ≤ j → R[t]? = some (.int .i64 (q (i + 1) t : Nat))) ∧ Hid (RowB wr2 br 3 R) ∧ Hid (RowB wr2 bl 3 L) ∧ Hid (Below w.heap.size w wr2))
      case atStart => exact ⟨0, R0, rfl, by omega, by omega, hRs, fun t ht => by obtain rfl : t = 0 := by omega
                                                                                 rw [HP1.out]; exact hR0.out 0 (by omega), HRN.out, HRL2.out, HBW2.out⟩
      case round =>
        obtain ⟨j, R, rfl, hj, hkx2, hRz, HR, HRR, HRL3, HBW3⟩ := hrel
        by_cases hlt2 : j < lb.length
        · obtain ⟨ga, oa, ea, lga, hca1⟩ := (HA.out.below HBW3.out) (by omega)
          obtain ⟨gb, ob, eb, lgb, hcb1⟩ := (HB.out.below HBW3.out) (by omega)
          have ka := hca1 i hlt
          have kb := hcb1 j hlt2
          subst ea eb
          obtain ⟨mx, hmx⟩ : ∃ mx, mx = max (q (i + 1) j) (q i (j + 1)) := ⟨_, rfl⟩
          obtain ⟨z, hz⟩ : ∃ z : Bool, (z = true ↔ (la[i] = lb[j] ∧ mx < q i j + 1)) := by
            by_cases h : la[i] = lb[j] ∧ mx < q i j + 1
            · exact ⟨true, by simp [h]⟩
            · exact ⟨false, by simp only [Bool.false_eq_true, false_iff]; exact h⟩
          have hst := HST.out i j hlt hlt2 z mx hmx hz
          generalize la[i] = x at *
          generalize lb[j] = y at *
          have HSTP := Lib.hid hst
          have HZ := Lib.hid hz
          have r0 := HRR.out.cell j
          rw [HR.out j (Nat.le_refl _)] at r0
          have l1 := HRL3.out.cell (j + 1)
          rw [HL.out (j + 1) (by omega)] at l1
          have l0 := HRL3.out.cell j
          rw [HL.out j (by omega)] at l0
          have r2 := HRR.out.cell (j + 1)
          rw [Array.getElem?_eq_getElem (by omega)] at r2
          have rf := HRR.out.thaw
          have b0 := HPL.out (i + 1) j
          have b1 := HPL.out i (j + 1)
          have b2 := HPL.out i j
          have b3 := HPL.out (i + 1) (j + 1)
          obtain ⟨q0, hq0⟩ : ∃ q0, q0 = q (i + 1) j := ⟨_, rfl⟩
          obtain ⟨q1, hq1⟩ : ∃ q1, q1 = q i (j + 1) := ⟨_, rfl⟩
          obtain ⟨q2, hq2⟩ : ∃ q2, q2 = q i j := ⟨_, rfl⟩
          rw [← hq0] at r0 hmx b0
          rw [← hq1] at l1 hmx b1
          rw [← hq2] at l0 b2
          have HQ2 := Lib.hid hq2
          have f1 : ((j : Int) + 1).toNat = j + 1 := by omega
          have f2 : (0 : Int) ≤ (j : Int) + 1 := by omega
          have f3 : (j : Int) + 1 < (lb.length : Int) + 1 := by omega
          have f4 : (j : Int) < (lb.length : Int) + 1 := by omega
          have f5 : IntKind.i64.wrap ((j : Int) + 1) = (j : Int) + 1 := by rw [IntKind.wrap_i64]; omega
          have f6 : IntKind.i64.wrap ((q2 : Int) + 1) = (q2 : Int) + 1 := by rw [IntKind.wrap_i64]; omega
          have f7 : (j : Int) < (lb.length : Int) := by omega
          clear hca1 hcb1 hz hst hq0 hq1 hq2
          go_upto_if 40 with fail
          go_cut [9] from 24 to 73 (fun s9 wx => s9 = .int .i64 mx ∧ wx = wr)
          case first =>
            by_cases hc : q0 < q1
            · obtain rfl : mx = q1 := by omega
              clear hmx
              have hc1 : (mx : Int) > (q0 : Int) := by omega
              go_wp2_with fail
              go_meet
              exact ⟨rfl, rfl⟩
            · obtain rfl : mx = q0 := by omega
              clear hmx
              have hc1 : ¬ (q1 : Int) > (mx : Int) := by omega
              go_wp2_with fail
              go_meet
              exact ⟨rfl, rfl⟩
          case rest =>
          obtain ⟨rfl, rfl⟩ := hcut
          have hmx8 : mx ≤ 8000 := by omega
          clear hmx
          go_upto_region 12 with fail
          go_cut [63] from 24 to 73 (fun s63 wx => s63 = .bool z ∧ ∃ nq, wx = wc.drewN nq)
          case first =>
            by_cases he : x = y
            · have hd : decide (x.toList = y.toList) = true := decide_eq_true ((str_eq x y).2 he)
              obtain rfl : z = decide ((mx : Int) < (q2 : Int) + 1) := by
                rw [Bool.eq_iff_iff, HZ.out, decide_eq_true_iff, ← HQ2.out]
                constructor
                · rintro ⟨_, h⟩; omega
                · intro h; exact ⟨he, by omega⟩
              subst he
              go_quiet (fail)
              go_wp2_with fail
              go_meet
              first
                | exact ⟨rfl, _, rfl⟩
                | exact ⟨congrArg Value.bool (by rw [Bool.eq_iff_iff]; simp), _, rfl⟩
            · have hd : decide (x.toList = y.toList) = false := decide_eq_false (fun h => he ((str_eq x y).1 h))
              have hd2 : (x.toList == y.toList) = false := beq_eq_false_iff_ne.2 (fun h => he ((str_eq x y).1 h))
              obtain rfl : z = false := by
                cases z
                · rfl
                · exact absurd (HZ.out.1 rfl).1 he
              go_quiet (fail)
              go_wp2_with fail
              go_meet
              exact ⟨rfl, _, rfl⟩
          case rest =>
          obtain ⟨rfl, nq, rfl⟩ := hcut
          have r0' : (wc.drewN nq).cell? ⟨br, j, none⟩ = some (.int .i64 q0) := r0
          have l0' : (wc.drewN nq).cell? ⟨bl, j, none⟩ = some (.int .i64 q2) := l0
          have r2' : (wc.drewN nq).cell? ⟨br, j + 1, none⟩ = some R[j + 1] := r2
          have rf' : ∀ i, (wc.drewN nq).frozen? ⟨br, i, none⟩ = false := rf
          have HRR' : Hid (RowB (wc.drewN nq) br 3 R) := HRR.out
          have HRL' : Hid (RowB (wc.drewN nq) bl 3 L) := HRL3.out
          have HBW' := Lib.hid (below_drewN HBW3.out nq)
          generalize wc.drewN nq = X at *
          obtain ⟨nx, hnx⟩ : ∃ nx, nx = q (i + 1) (j + 1) := ⟨_, rfl⟩
          have hst := HSTP.out
          rw [← hnx, ← HQ2.out] at hst
          have HF2 : Hid (∀ t, t ≤ j + 1 → (R.setIfInBounds (j + 1) (.int .i64 nx))[t]? = some (.int .i64 (q (i + 1) t : Nat))) := fun t ht => by
            by_cases e : t = j + 1
            · subst e
              rw [Array.getElem?_setIfInBounds, if_pos rfl, if_pos (by omega), hnx]
            · rw [Array.getElem?_setIfInBounds, if_neg (by omega)]
              exact HR.out t (by omega)
          have N1 := Lib.hid (HRR'.out.put (j + 1) (.int .i64 nx))
          have N2 := Lib.hid (HRL'.out.far (p := ⟨br, j + 1, none⟩) (Ne.symm hne) (.int .i64 nx))
          have N3 := Lib.hid (HBW'.out.setCell (p := ⟨br, j + 1, none⟩) hbr2 (.int .i64 nx))
          clear hnx r0 l0 r2 rf l1 HSTP HZ ka kb
          cases z
          · obtain rfl : nx = mx := by simpa using hst
            clear hst
            go_wp2_with fail
            go_roundg (lb.length - (j + 1))
            case measure => omega
            case rel => exact ⟨j + 1, _, by go_num, by omega, by omega, by simpa using hRz, HF2.out, N1.out, N2.out, N3.out⟩
          · obtain rfl : nx = q2 + 1 := by simpa using hst
            clear hst
            go_wp2_with fail
            go_roundg (lb.length - (j + 1))
            case measure => omega
            case rel => exact ⟨j + 1, _, by go_num, by omega, by omega, by simpa using hRz, HF2.out, N1.out, N2.out, N3.out⟩
        · obtain rfl : j = lb.length := by omega
          have hnl : ¬ (lb.length : Int) < (lb.length : Int) := by omega
          go_wp2_with fail
          go_roundg (la.length - (i + 1))
          case measure => omega
          case rel => exact ⟨i + 1, br, R, by first | rfl | rw [hbr], by go_num, by omega, by omega, hbr2, hRz, HR.out, HRR.out, HBW3.out⟩
    · obtain rfl : i = la.length := by omega
      have hnl : ¬ (la.length : Int) < (la.length : Int) := by omega
      have r1 := HRL.out.cell lb.length
      rw [HL.out _ (Nat.le_refl _), HPA.out] at r1
      have f4 : (lb.length : Int) < (lb.length : Int) + 1 := by omega
      go_wp2
      go_ret
      exact ⟨rfl, HBW.out⟩
end Go.Proofs.YthbmnnnlkgbieaaGreatDoor
