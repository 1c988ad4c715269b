/- Contracts: what a writer writes of a record; of any value. -/
import Derived.Test.YtbjlhdjcdinmhaaDoorQT
namespace Go.Proofs.YtbjlhdjcdinmhaaDoor
open Go.RowKit Go.Op
namespace Vm
set_option maxHeartbeats 8000000 in
set_option maxRecDepth 100000 in
theorem record_w (k : VH) (ns : List ByteArray) (ps : List Vl) (IH : TextIH ps) (hg : ∀ p ∈ ps, Good p) (he : ns.length = ps.length) (hln : ns.length ≤ 1000001)
    (B b : Nat) (bs : List Value) (w : World) (An : Option Addr) (cn : Nat) (A : Option Addr) (c : Nat) (hp : Prn B b bs w) (hB : B ≤ w.heap.size) (hN : NV w (fun g => g < B) ns An cn) (hV : VV w (fun g => g < B) ps A c)
    (hl : bs.length + ([123] ++ pieces 0 ns (textL ps) ++ [125]).length ≤ lim) (hT : TbB B w) :
    Calls Tryd.prog 61 #[.pointer (some ⟨b, 0, none⟩), .agg (varr k An ns.length cn A ps.length c)] w (Wrt B b bs ([123] ++ pieces 0 ns (textL ps) ++ [125]) w) := by
  have hbl := hp.lt
  have b1 := bel1 w (.cells (varr k An ns.length cn A ps.length c) 34)
  have R1 := Lib.hid (RowB.new w 34 (varr k An ns.length cn A ps.length c))
  obtain ⟨W, hW⟩ : ∃ W, W = w.alloc (.cells (varr k An ns.length cn A ps.length c) 34) := ⟨_, rfl⟩
  rw [← hW] at R1 b1
  have P0 := Lib.hid (Pw.start (hp.below b1) (Nat.le_trans hB b1.size))
  have HTB := Lib.hid (hT.step (b1.mono hB))
  have HB1 := Lib.hid b1
  have HBW := Lib.hid hB
  have n1 : w.heap.size ≠ b := by omega
  have r1 := R1.out.cell
  have HN := Lib.hid (hN.below b1)
  have HV := Lib.hid (hV.below b1)
  have HI := Lib.hid IH
  have HG := Lib.hid hg
  have HL := Lib.hid hl
  obtain ⟨n, hn⟩ : ∃ n, n = ns.length := ⟨_, rfl⟩
  have hm : ps.length = n := by rw [hn, he]
  rw [hm] at R1 r1 hW ⊢
  rw [← hn] at R1 r1 hW hln ⊢
  have HNL := Lib.hid hn
  have HPL := Lib.hid hm
  have C1 := P0.out.write' ⟨#[123]⟩ [123] rfl HL.out (by simp)
  clear b1 hp hT hl IH hg hN hV hB hn hm he
  go_enter Tryd.func61, Tryd.ntmps61
  go_wp2_with fail
  rw [← hW]
  refine C1.mono ?_
  rintro e w1 ⟨rfl, hp1, ho1⟩
  have P1 := Lib.hid hp1
  have R2 := Lib.hid (row_others R1.out ho1 n1 (by decide))
  have r2 := R2.out.cell
  clear hp1 ho1 C1 r1 hW
  go_wp2_with fail
  go_loopg [13] (n + 1) (fun kx s13 wr => ∃ i : Nat, s13 = .int .i64 i ∧ n - i ≤ kx ∧ i ≤ n ∧ Hid (Pw B b bs ([123] ++ pieces 0 (ns.take i) ((textL ps).take i)) W wr))
  case atStart => exact ⟨0, rfl, by omega, by omega, P1.out.cast (by simp [pieces])⟩
  case round =>
    obtain ⟨i, rfl, hkx, hin, HP⟩ := hrel
    have RX := Lib.hid (HP.out.row R1.out n1 (by decide))
    have rx := RX.out.cell
    by_cases hi : i < n
    · have hil : (i : Int) < (n : Int) := by omega
      obtain ⟨s, e⟩ := get_lt (l := ns) (i := i) (by rw [← HNL.out]; exact hi)
      obtain ⟨p, e'⟩ := get_lt (l := ps) (i := i) (by rw [HPL.out]; exact hi)
      obtain ⟨g, o, hA, hPg, hg, y0', _⟩ := HN.out.nth e
      have y0 := (HP.out.bl.cell (p := ⟨g, o + i, none⟩) hPg).trans y0'
      obtain ⟨g', o', An2, cn2, A2, c2, hA', hPg', hg', hti, z0, z1, z2, z3, z4⟩ := HV.out.nth e'
      have HMEM := Lib.hid (List.mem_of_getElem? e')
      have et : (textL ps)[i]? = some p.text := by rw [textL_map, List.getElem?_map, e']; rfl
      have HSN := Lib.hid (pieces_snoc (k := 0) e et)
      have HLE : Hid ((pieces 0 (ns.take (i + 1)) ((textL ps).take (i + 1))).length ≤ (pieces 0 ns (textL ps)).length) := pieces_le
      have HLEN : Hid ((pieces 0 (ns.take i) ((textL ps).take i)).length + (if 0 + i = 0 then ([] : List UInt8) else [44, 32]).length + s.data.toList.length + 2 + p.text.length ≤ (pieces 0 ns (textL ps)).length) := by
        have h1 := HLE.out
        rw [HSN.out] at h1
        simp only [List.length_append, List.length_cons, List.length_nil] at h1
        unfold Hid
        omega
      have HLL : Hid (bs.length + (2 + (pieces 0 ns (textL ps)).length) ≤ lim) := by
        have h1 := HL.out
        simp only [List.length_append, List.length_cons, List.length_nil] at h1
        unfold Hid
        omega
      obtain ⟨X, hX⟩ : ∃ X, X = pieces 0 (ns.take i) ((textL ps).take i) := ⟨_, rfl⟩
      obtain ⟨L, hLx⟩ : ∃ L, L = (pieces 0 ns (textL ps)).length := ⟨_, rfl⟩
      obtain ⟨j, hj⟩ : ∃ j, j = i + 1 := ⟨_, rfl⟩
      rw [← hX] at HP HSN HLEN
      rw [← hLx] at HLEN HLL
      rw [← hj] at HSN
      have HVW := Lib.hid hti
      subst hA hA'
      clear e e' et hti HLE hX hLx y0'
      have HZ : Hid (∀ wq, Below B W wq → wq.cell? ⟨g', o' + i * 5, none⟩ = some (.int .i64 p.hd.kind) ∧ wq.cell? ⟨g', o' + i * 5 + 1, none⟩ = some (.int .i64 p.hd.n) ∧ wq.cell? ⟨g', o' + i * 5 + 2, none⟩ = some (.string p.hd.s) ∧ wq.cell? ⟨g', o' + i * 5 + 3, none⟩ = some (.slice An2 p.names.length cn2) ∧ wq.cell? ⟨g', o' + i * 5 + 4, none⟩ = some (.slice A2 p.parts.length c2)) := fun wq hb =>
        have key : ∀ (k : Nat) (u : Value), W.cell? ⟨g', k, none⟩ = some u → wq.cell? ⟨g', k, none⟩ = some u := fun k u h => (hb.cell (p := ⟨g', k, none⟩) hPg').trans h
        ⟨key _ _ z0, key _ _ z1, key _ _ z2, key _ _ z3, key _ _ z4⟩
      clear z0 z1 z2 z3 z4
      by_cases h0 : i = 0
      · subst h0
        rw [Nat.add_zero] at y0
        have PA : Hid (Pw B b bs ([123] ++ X) W wr) := HP
        have RA := RX
        have HSP : Hid ((if 0 + 0 = 0 then ([] : List UInt8) else [44, 32]) = []) := by unfold Hid; rfl
        rw [HSP.out] at HSN HLEN
        clear HSP HP
        have CB := Lib.hid (PA.out.write' s s.data.toList rfl HLL.out (by have := HLEN.out; simp only [List.length_append, List.length_cons, List.length_nil] at *; omega))
        go_wp2_with fail
        refine CB.out.mono ?_
        rintro e wb ⟨rfl, hpb, hob⟩
        have PB := Lib.hid hpb
        have RB := Lib.hid (row_others RA.out hob n1 (by decide))
        clear hpb hob CB rx y0
        have rx := RB.out.cell
        have CC := Lib.hid (PB.out.write' ⟨#[58, 32]⟩ [58, 32] rfl HLL.out (by have := HLEN.out; simp only [List.length_append, List.length_cons, List.length_nil] at *; omega))
        go_wp2_with fail
        refine CC.out.mono ?_
        rintro e wc ⟨rfl, hpc, hoc⟩
        have PC := Lib.hid hpc
        have RC := Lib.hid (row_others RB.out hoc n1 (by decide))
        clear hpc hoc CC rx
        have rx := RC.out.cell
        obtain ⟨z0, z1, z2, z3, z4⟩ := HZ.out wc PC.out.bl
        simp only [Nat.zero_mul, Nat.add_zero] at z0 z1 z2 z3 z4
        have HVC := Lib.hid (PC.out.ti HVW.out)
        have CD := Lib.hid (HI.out p HMEM.out (HG.out p HMEM.out) B b _ wc An2 cn2 A2 c2 PC.out.p PC.out.size.1 HVC.out (by have h1 := HLEN.out; have h2 := HLL.out; simp only [List.length_append, Lib.byteCells_length, List.length_cons, List.length_nil] at *; omega) (HTB.out.step PC.out.bl))
        obtain ⟨kp, np, pp⟩ := p
        simp only [hd_mk, names_mk, parts_mk] at CD z0 z1 z2 z3 z4
        go_wp2_with fail
        refine CD.out.mono ?_
        rintro e wd hwd
        obtain ⟨rfl, hpd⟩ := PC.out.step hwd
        have PD : Hid (Pw B b bs ([123] ++ pieces 0 (ns.take j) ((textL ps).take j)) W wd) := hpd.cast (by rw [HSN.out]; simp)
        clear hwd hpd CD z0 z1 z2 z3 z4 rx
        go_wp2_with fail
        go_roundg (n - j)
        case measure => omega
        case rel => exact ⟨j, by rw [hj]; go_num, by omega, by omega, PD.out⟩
      · have q0 : (i : Int) > 0 := by omega
        have HSP : Hid ((if 0 + i = 0 then ([] : List UInt8) else [44, 32]) = [44, 32]) := by unfold Hid; rw [if_neg (by omega)]
        rw [HSP.out] at HSN HLEN
        have CA := Lib.hid (HP.out.write' ⟨#[44, 32]⟩ [44, 32] rfl HLL.out (by have := HLEN.out; simp only [List.length_append, List.length_cons, List.length_nil] at *; omega))
        clear HSP
        go_wp2_with fail
        refine CA.out.mono ?_
        rintro e wa ⟨rfl, hpa, hoa⟩
        have y1 := True.intro
        have PA := Lib.hid hpa
        have RA := Lib.hid (row_others RX.out hoa n1 (by decide))
        clear hpa hoa CA HP rx y0 RX
        have rx := RA.out.cell
        have CB := Lib.hid (PA.out.write' s s.data.toList rfl HLL.out (by have := HLEN.out; simp only [List.length_append, List.length_cons, List.length_nil] at *; omega))
        go_wp2_with fail
        refine CB.out.mono ?_
        rintro e wb ⟨rfl, hpb, hob⟩
        have PB := Lib.hid hpb
        have RB := Lib.hid (row_others RA.out hob n1 (by decide))
        clear hpb hob CB rx
        have rx := RB.out.cell
        have CC := Lib.hid (PB.out.write' ⟨#[58, 32]⟩ [58, 32] rfl HLL.out (by have := HLEN.out; simp only [List.length_append, List.length_cons, List.length_nil] at *; omega))
        go_wp2_with fail
        refine CC.out.mono ?_
        rintro e wc ⟨rfl, hpc, hoc⟩
        have PC := Lib.hid hpc
        have RC := Lib.hid (row_others RB.out hoc n1 (by decide))
        clear hpc hoc CC rx
        have rx := RC.out.cell
        obtain ⟨z0, z1, z2, z3, z4⟩ := HZ.out wc PC.out.bl
        have HVC := Lib.hid (PC.out.ti HVW.out)
        have CD := Lib.hid (HI.out p HMEM.out (HG.out p HMEM.out) B b _ wc An2 cn2 A2 c2 PC.out.p PC.out.size.1 HVC.out (by have h1 := HLEN.out; have h2 := HLL.out; simp only [List.length_append, Lib.byteCells_length, List.length_cons, List.length_nil] at *; omega) (HTB.out.step PC.out.bl))
        obtain ⟨kp, np, pp⟩ := p
        simp only [hd_mk, names_mk, parts_mk] at CD z0 z1 z2 z3 z4
        go_wp2_with fail
        refine CD.out.mono ?_
        rintro e wd hwd
        obtain ⟨rfl, hpd⟩ := PC.out.step hwd
        have PD : Hid (Pw B b bs ([123] ++ pieces 0 (ns.take j) ((textL ps).take j)) W wd) := hpd.cast (by rw [HSN.out]; simp)
        clear hwd hpd CD z0 z1 z2 z3 z4 rx
        go_wp2_with fail
        go_roundg (n - j)
        case measure => omega
        case rel => exact ⟨j, by rw [hj]; go_num, by omega, by omega, PD.out⟩
    · have hil : ¬ (i : Int) < (n : Int) := by omega
      obtain rfl : i = n := by omega
      have HPF : Hid (Pw B b bs ([123] ++ pieces 0 ns (textL ps)) W wr) := by
        have h1 := HP.out
        rw [List.take_of_length_le (by rw [← HNL.out]; exact Nat.le_refl _), List.take_of_length_le (by rw [textL_map, List.length_map, HPL.out]; exact Nat.le_refl _)] at h1
        exact h1
      have C5 := HPF.out.write' ⟨#[125]⟩ [125] rfl HL.out (by simp)
      clear hi HP
      go_wp2_with fail
      refine C5.mono ?_
      rintro e w5 ⟨rfl, hp5, ho5⟩
      have P5 := Lib.hid hp5
      clear hp5 ho5 C5 rx
      go_wp2_with fail
      go_end0
      exact ⟨rfl, P5.out.p, (HB1.out.mono HBW.out).trans P5.out.bl, (others_below HB1.out).trans P5.out.oth⟩
end Vm
end Go.Proofs.YtbjlhdjcdinmhaaDoor
