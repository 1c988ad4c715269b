/- Contract: are all names of a value names (f31)? -/
import Derived.Test.YtbjlhdjcdinmhaaDoorRM
namespace Go.Proofs.YtbjlhdjcdinmhaaDoor
open Go.RowKit Go.Op
namespace Vm
set_option maxHeartbeats 8000000 in
set_option maxRecDepth 100000 in
theorem nmd_step (k : VH) (ns : List ByteArray) (ps : List Vl) (hlen : ns.length = ps.length) (hnl : ns.length ≤ 1000001)
    (IH : ∀ p ∈ ps, ∀ (w : World) (P : Nat → Prop) (An : Option Addr) (cn : Nat) (A : Option Addr) (c : Nat), VI w P p An cn A c → Calls Tryd.prog 31 #[vv p An cn A c] w fun e w' => e = .returned (.bool p.nmd) ∧ Below w.heap.size w w')
    (w : World) (P : Nat → Prop) (An : Option Addr) (cn : Nat) (A : Option Addr) (c : Nat) (hN : NV w P ns An cn) (hT : VV w P ps A c) :
    Calls Tryd.prog 31 #[.agg (varr k An ns.length cn A ps.length c)] w fun e w' => e = .returned (.bool (Vl.mk k ns ps).nmd) ∧ Below w.heap.size w w' := by
  replace hN := hN.low
  replace hT := hT.low
  obtain ⟨n, hn⟩ : ∃ n, n = ns.length := ⟨_, rfl⟩
  have hm : n = ps.length := hn.trans hlen
  have HN := Lib.hid hn
  have HM := Lib.hid hm
  have hn1 : n ≤ 1000001 := by omega
  rw [← hn, ← hm]
  have b1 := bel1 w (.cells (varr k An n cn A n c) 25)
  have R1 := RowB.new w 25 (varr k An n cn A n c)
  have r1 := R1.cell
  obtain ⟨W, hW⟩ : ∃ W, W = w.alloc (.cells (varr k An n cn A n c) 25) := ⟨_, rfl⟩
  have RT : Hid (RowB W w.heap.size 25 (varr k An n cn A n c)) := by rw [hW]; exact R1
  have HB : Hid (Below w.heap.size w W) := by rw [hW]; exact b1
  have HNV := Lib.hid hN
  have HVV := Lib.hid hT
  have HI := Lib.hid IH
  obtain ⟨r, hr⟩ : ∃ r, r = (Vl.mk k ns ps).nmd := ⟨_, rfl⟩
  rw [← hr]
  rw [Vl.nmd, nmdL_all] at hr
  have HR := Lib.hid hr
  have e2 := hW
  clear hN hT b1 R1 IH hm hn hnl hlen hW hr
  go_enter Tryd.func31, Tryd.ntmps31
  go_wp2_with fail
  rw [← e2]
  clear e2 r1
  go_loopg [8] (n + 1) (fun kx s8 wr => ∃ (i : Nat), s8 = .int .i64 i ∧ n - i ≤ kx ∧ i ≤ n ∧ Hid (Below W.heap.size W wr) ∧ Hid ((ns.take i).all (fun n => rnameL n.data.toList) = true ∧ (ps.take i).all Vl.nmd = true))
  case atStart => exact ⟨0, rfl, by omega, by omega, Below.refl _ _, by simp, by simp⟩
  case round =>
    obtain ⟨i, rfl, hkx, hin, HWr, HQ⟩ := hrel
    have HBr : Hid (Below w.heap.size w wr) := HB.out.trans (HWr.out.mono HB.out.size)
    have RTr := Lib.hid (RT.out.below HWr.out RT.out.lt)
    by_cases hi : i < n
    · have hil : (i : Int) < (n : Int) := by omega
      obtain ⟨p, ep⟩ := get_lt (l := ps) (i := i) (by rw [← HM.out]; exact hi)
      obtain ⟨s, es⟩ := get_lt (l := ns) (i := i) (by rw [← HN.out]; exact hi)
      obtain ⟨g0, o0, hA0, hP0, hg0, y, hsx⟩ := (HNV.out.below HBr.out).nth es
      obtain ⟨bb, hbb⟩ : ∃ bb, bb = rnameL s.data.toList := ⟨_, rfl⟩
      have C0' := rname_any s (by omega) wr
      rw [← hbb] at C0'
      have C0 := Lib.hid C0'
      obtain ⟨pb, hpb⟩ : ∃ pb, pb = p.nmd := ⟨_, rfl⟩
      have C1 : Hid (∀ w', Below wr.heap.size wr w' → ∃ g oo An2 cn2 A2 c2, A = some ⟨g, oo, none⟩ ∧ w'.cell? ⟨g, oo + i * 5, none⟩ = some (.int .i64 p.hd.kind) ∧ w'.cell? ⟨g, oo + i * 5 + 1, none⟩ = some (.int .i64 p.hd.n) ∧ w'.cell? ⟨g, oo + i * 5 + 2, none⟩ = some (.string p.hd.s) ∧ w'.cell? ⟨g, oo + i * 5 + 3, none⟩ = some (.slice An2 p.names.length cn2) ∧ w'.cell? ⟨g, oo + i * 5 + 4, none⟩ = some (.slice A2 p.parts.length c2) ∧
          Calls Tryd.prog 31 #[vv p An2 cn2 A2 c2] w' fun e w2 => e = .returned (.bool pb) ∧ Below w'.heap.size w' w2) := fun w' hb => by
        obtain ⟨g, oo, An2, cn2, A2, c2, hA, hP, hg, hti, z0, z1, z2, z3, z4⟩ := ((HVV.out.below HBr.out).below hb).nth ep
        have := HI.out p (List.mem_of_getElem? ep) w' _ An2 cn2 A2 c2 hti
        rw [← hpb] at this
        exact ⟨g, oo, An2, cn2, A2, c2, hA, z0, z1, z2, z3, z4, this⟩
      have HT1 : Hid (bb = false → r = false) := fun h => by
        rw [HR.out, Bool.and_eq_false_iff]
        exact .inl (all_no (List.mem_of_getElem? es) (by rw [← hbb]; exact h))
      have HT2 : Hid (pb = false → r = false) := fun h => by
        rw [HR.out, Bool.and_eq_false_iff]
        exact .inr (all_no (List.mem_of_getElem? ep) (by rw [← hpb]; exact h))
      obtain ⟨j, hj⟩ : ∃ j, j = i + 1 := ⟨_, rfl⟩
      have HF : Hid (bb = true → pb = true → (ns.take j).all (fun n => rnameL n.data.toList) = true ∧ (ps.take j).all Vl.nmd = true) := fun h1 h2 => by
        rw [hj]
        exact ⟨all_take es HQ.out.1 (by rw [← hbb]; exact h1), all_take ep HQ.out.2 (by rw [← hpb]; exact h2)⟩
      subst hA0
      clear ep es hP0 hsx hbb hpb C0'
      have rT := RTr.out.cell
      go_wp2_with fail
      refine C0.out.mono ?_
      rintro e w2 ⟨rfl, h2⟩
      have HX2 := Lib.hid (HWr.out.trans (h2.mono HWr.out.size))
      have HB2 := Lib.hid (HBr.out.trans (h2.mono HBr.out.size))
      obtain ⟨g, oo, An2, cn2, A2, c2, hA, z0, z1, z2, z3, z4, hc⟩ := C1.out w2 h2
      have C2 := Lib.hid hc
      have RT2 := Lib.hid (RTr.out.below h2 RTr.out.lt)
      clear C0 C1 h2 hc rT y
      cases bb with
      | false =>
        have HF1 := Lib.hid (HT1.out (by first | rfl | trivial))
        clear HT1 HT2 HF C2 z0 z1 z2 z3 z4 hA
        go_wp2_with fail
        (first | go_ret | go_ret2)
        exact ⟨by rw [HF1.out]; rfl, HB2.out⟩
      | true =>
        have rT := RT2.out.cell
        subst hA
        obtain ⟨ph, pn, pp⟩ := p
        simp only [varr, vv, hd_mk, names_mk, parts_mk] at z0 z1 z2 z3 z4 C2 rT
        go_wp2_with fail
        refine C2.out.mono ?_
        rintro e w3 ⟨rfl, h3⟩
        have HX3 := Lib.hid (HX2.out.trans (h3.mono HX2.out.size))
        have HB3 := Lib.hid (HB2.out.trans (h3.mono HB2.out.size))
        clear C2 h3 rT z0 z1 z2 z3 z4
        cases pb with
        | false =>
          have HF1 := Lib.hid (HT2.out (by first | rfl | trivial))
          clear HT1 HT2 HF
          go_wp2_with fail
          (first | go_ret | go_ret2)
          exact ⟨by rw [HF1.out]; rfl, HB3.out⟩
        | true =>
          have HF1 := Lib.hid (HF.out (by first | rfl | trivial) (by first | rfl | trivial))
          clear HT1 HT2 HF
          go_wp2_with fail
          go_roundg (n - j)
          case measure => omega
          case rel => exact ⟨j, by rw [hj]; go_num, by omega, by omega, HX3.out, HF1.out⟩
    · have hil : ¬ (i : Int) < (n : Int) := by omega
      obtain rfl : n = i := by omega
      have HF : Hid (r = true) := by
        have h := HQ.out
        rw [List.take_of_length_le (by rw [← HN.out]; exact Nat.le_refl _), List.take_of_length_le (by rw [← HM.out]; exact Nat.le_refl _)] at h
        unfold Hid
        rw [HR.out, h.1, h.2]
        rfl
      clear hi RTr HQ HR
      go_wp2_with fail
      (first | go_ret | go_ret2)
      exact ⟨by rw [HF.out]; rfl, HBr.out⟩
theorem nmd_any : ∀ v : Vl, v.right = true → v.cnt ≤ 1000001 → ∀ (w : World) (P : Nat → Prop) (An : Option Addr) (cn : Nat) (A : Option Addr) (c : Nat), VI w P v An cn A c → Calls Tryd.prog 31 #[vv v An cn A c] w fun e w' => e = .returned (.bool v.nmd) ∧ Below w.heap.size w w' := by
  refine Vl.ind fun k ns ps ih hr hc w P An cn A c h => ?_
  rw [Vl.cnt] at hc
  have e1 := cntL_len ps
  have hh := VI_iff.1 h
  have hlen : ns.length = ps.length := by
    rcases right_cases hr with ⟨_, _, rfl, rfl⟩ | ⟨_, _, rfl, rfl⟩ | ⟨_, _, _, rfl, rfl⟩ | ⟨_, _, _, h, _⟩
    · rfl
    · rfl
    · rfl
    · exact h
  exact nmd_step k ns ps hlen (by omega) (fun p hp w P An cn A c h => ih p hp (right_part hr hp) (by have := cnt_mem hp; omega) w P An cn A c h) w P An cn A c hh.1 hh.2
end Vm
end Go.Proofs.YtbjlhdjcdinmhaaDoor
