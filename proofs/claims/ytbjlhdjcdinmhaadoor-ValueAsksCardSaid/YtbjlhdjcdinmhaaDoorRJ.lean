/- Contract: does a name stand in a value (f30)? -/
import Derived.Test.YtbjlhdjcdinmhaaDoorRI
namespace Go.Proofs.YtbjlhdjcdinmhaaDoor
open Go.RowKit Go.Op
namespace Vm
set_option maxHeartbeats 8000000 in
set_option maxRecDepth 100000 in
theorem has_step (x : ByteArray) (k : VH) (ns : List ByteArray) (ps : List Vl) (hlen : ns.length = ps.length) (hnl : ns.length ≤ 1000001)
    (IH : ∀ p ∈ ps, ∀ (w : World) (P : Nat → Prop) (An : Option Addr) (cn : Nat) (A : Option Addr) (c : Nat), VI w P p An cn A c → Calls Tryd.prog 30 #[vv p An cn A c, .string x] w fun e w' => e = .returned (.bool (p.has x)) ∧ Below w.heap.size w w')
    (w : World) (P : Nat → Prop) (An : Option Addr) (cn : Nat) (A : Option Addr) (c : Nat) (hN : NV w P ns An cn) (hT : VV w P ps A c) :
    Calls Tryd.prog 30 #[.agg (varr k An ns.length cn A ps.length c), .string x] w fun e w' => e = .returned (.bool ((Vl.mk k ns ps).has x)) ∧ Below w.heap.size w w' := by
  replace hN := hN.low
  replace hT := hT.low
  obtain ⟨n, hn⟩ : ∃ n, n = ns.length := ⟨_, rfl⟩
  have hm : n = ps.length := hn.trans hlen
  have HN := Lib.hid hn
  have HM := Lib.hid hm
  have hn1 : n ≤ 1000001 := by omega
  rw [← hn, ← hm]
  have b1 := bel1 w (.cells (varr k An n cn A n c) 25)
  have R1 := RowB.new w 25 (varr k An n cn A n c)
  have r1 := R1.cell
  obtain ⟨W, hW⟩ : ∃ W, W = w.alloc (.cells (varr k An n cn A n c) 25) := ⟨_, rfl⟩
  have RT : Hid (RowB W w.heap.size 25 (varr k An n cn A n c)) := by rw [hW]; exact R1
  have HB : Hid (Below w.heap.size w W) := by rw [hW]; exact b1
  have HNV := Lib.hid hN
  have HVV := Lib.hid hT
  have HI := Lib.hid IH
  obtain ⟨r, hr⟩ : ∃ r, r = (Vl.mk k ns ps).has x := ⟨_, rfl⟩
  rw [← hr]
  rw [Vl.has, hasL_any] at hr
  have HR := Lib.hid hr
  have e2 := hW
  clear hN hT b1 R1 IH hm hn hnl hlen hW hr
  go_enter Tryd.func30, Tryd.ntmps30
  go_wp2_with fail
  rw [← e2]
  clear e2 r1
  go_loopg [10] (n + 1) (fun kx s10 wr => ∃ (i : Nat), s10 = .int .i64 i ∧ n - i ≤ kx ∧ i ≤ n ∧ Hid (Below W.heap.size W wr) ∧ Hid ((ns.take i).any (fun n => decide (n = x)) = false ∧ (ps.take i).any (Vl.has x) = false))
  case atStart => exact ⟨0, rfl, by omega, by omega, Below.refl _ _, by simp, by simp⟩
  case round =>
    obtain ⟨i, rfl, hkx, hin, HWr, HQ⟩ := hrel
    have HBr : Hid (Below w.heap.size w wr) := HB.out.trans (HWr.out.mono HB.out.size)
    have RTr := RT.out.below HWr.out RT.out.lt
    have rT := RTr.cell
    by_cases hi : i < n
    · have hil : (i : Int) < (n : Int) := by omega
      obtain ⟨p, ep⟩ := get_lt (l := ps) (i := i) (by rw [← HM.out]; exact hi)
      obtain ⟨s, es⟩ := get_lt (l := ns) (i := i) (by rw [← HN.out]; exact hi)
      obtain ⟨g0, o0, hA0, hP0, hg0, y, hsx⟩ := (HNV.out.below HBr.out).nth es
      obtain ⟨g, oo, An2, cn2, A2, c2, hA, hP, hg, hti, z0, z1, z2, z3, z4⟩ := (HVV.out.below HBr.out).nth ep
      have C1 := Lib.hid (HI.out p (List.mem_of_getElem? ep) wr _ An2 cn2 A2 c2 hti)
      obtain ⟨bb, hbb⟩ : ∃ bb, bb = decide (s = x) := ⟨_, rfl⟩
      have hxe : (s.toList == x.toList) = bb := by rw [beq_ba, hbb]
      obtain ⟨pb, hpb⟩ : ∃ pb, pb = p.has x := ⟨_, rfl⟩
      rw [← hpb] at C1
      have HT1 : Hid (bb = true → r = true) := fun h => by
        rw [HR.out, Bool.or_eq_true]
        exact .inl (List.any_eq_true.2 ⟨s, List.mem_of_getElem? es, by rw [← hbb]; exact h⟩)
      have HT2 : Hid (pb = true → r = true) := fun h => by
        rw [HR.out, Bool.or_eq_true]
        exact .inr (List.any_eq_true.2 ⟨p, List.mem_of_getElem? ep, by rw [← hpb]; exact h⟩)
      obtain ⟨j, hj⟩ : ∃ j, j = i + 1 := ⟨_, rfl⟩
      have HF : Hid (bb = false → pb = false → (ns.take j).any (fun n => decide (n = x)) = false ∧ (ps.take j).any (Vl.has x) = false) := fun h1 h2 => by
        rw [hj, List.take_add_one, List.take_add_one, es, ep, List.any_append, List.any_append, HQ.out.1, HQ.out.2]
        simp [← hbb, h1, ← hpb, h2]
      subst hA hA0
      obtain ⟨ph, pn, pp⟩ := p
      simp only [varr, vv, hd_mk, names_mk, parts_mk] at z0 z1 z2 z3 z4 C1 rT
      clear ep es hti hP hP0 hsx hbb hpb RTr
      cases bb with
      | true =>
        have HF1 := Lib.hid (HT1.out (by first | rfl | trivial))
        clear HT1 HT2 HF C1
        go_wp2_with fail
        (first | go_ret | go_ret2)
        exact ⟨by rw [HF1.out]; rfl, HBr.out⟩
      | false =>
        go_wp2_with fail
        refine C1.out.mono ?_
        rintro e w3 ⟨rfl, h3⟩
        have HX3 := Lib.hid (HWr.out.trans (h3.mono HWr.out.size))
        have HB3 := Lib.hid (HBr.out.trans (h3.mono HBr.out.size))
        clear C1 h3 rT z0 z1 z2 z3 z4 y
        cases pb with
        | true =>
          have HF1 := Lib.hid (HT2.out (by first | rfl | trivial))
          clear HT1 HT2 HF
          go_wp2_with fail
          (first | go_ret | go_ret2)
          exact ⟨by rw [HF1.out]; rfl, HB3.out⟩
        | false =>
          have HF1 := Lib.hid (HF.out (by first | rfl | trivial) (by first | rfl | trivial))
          clear HT1 HT2 HF
          go_wp2_with fail
          go_roundg (n - j)
          case measure => omega
          case rel => exact ⟨j, by rw [hj]; go_num, by omega, by omega, HX3.out, HF1.out⟩
    · have hil : ¬ (i : Int) < (n : Int) := by omega
      obtain rfl : n = i := by omega
      have HF : Hid (r = false) := by
        have h := HQ.out
        rw [List.take_of_length_le (by rw [← HN.out]; exact Nat.le_refl _), List.take_of_length_le (by rw [← HM.out]; exact Nat.le_refl _)] at h
        unfold Hid
        rw [HR.out, h.1, h.2]
        rfl
      clear hi rT RTr HQ HR
      go_wp2_with fail
      (first | go_ret | go_ret2)
      exact ⟨by rw [HF.out]; rfl, HBr.out⟩
theorem has_any (x : ByteArray) : ∀ v : Vl, v.right = true → v.cnt ≤ 1000001 → ∀ (w : World) (P : Nat → Prop) (An : Option Addr) (cn : Nat) (A : Option Addr) (c : Nat), VI w P v An cn A c → Calls Tryd.prog 30 #[vv v An cn A c, .string x] w fun e w' => e = .returned (.bool (v.has x)) ∧ Below w.heap.size w w' := by
  refine Vl.ind fun k ns ps ih hr hc w P An cn A c h => ?_
  rw [Vl.cnt] at hc
  have e1 := cntL_len ps
  have hh := VI_iff.1 h
  have hlen : ns.length = ps.length := by
    rcases right_cases hr with ⟨_, _, rfl, rfl⟩ | ⟨_, _, rfl, rfl⟩ | ⟨_, _, _, rfl, rfl⟩ | ⟨_, _, _, h, _⟩
    · rfl
    · rfl
    · rfl
    · exact h
  exact has_step x k ns ps hlen (by omega) (fun p hp w P An cn A c h => ih p hp (right_part hr hp) (by have := cnt_mem hp; omega) w P An cn A c h) w P An cn A c hh.1 hh.2
end Vm
end Go.Proofs.YtbjlhdjcdinmhaaDoor
