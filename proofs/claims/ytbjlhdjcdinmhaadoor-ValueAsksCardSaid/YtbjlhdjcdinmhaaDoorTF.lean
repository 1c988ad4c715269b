/- Contract: a value's text, by the document (f19). -/
import Derived.Test.YtbjlhdjcdinmhaaDoorTE
import Derived.Test.YtbjlhdjcdinmhaaDoorQX
import Derived.Test.YtbjlhdjcdinmhaaDoorQV
namespace Go.Proofs.YtbjlhdjcdinmhaaDoor
open Go.RowKit Go.Op
namespace Vm
def txS (v : Vl) : ByteArray := ⟨v.text.toArray⟩
theorem txS_list (v : Vl) : (txS v).data.toList = v.text := by simp [txS]
theorem txS_of {v : Vl} (h : v.right = true) : textS v = txS v := by rw [textS, if_pos h]; rfl
theorem tx_size {v : Vl} (hr : v.rng) (hb : v.byt ≤ 100000) : v.text.length ≤ 3500000 := by
  have := text_byt v hr
  omega
set_option maxHeartbeats 8000000 in
set_option maxRecDepth 100000 in
theorem rtext_leaf (k : VH) (ns : List ByteArray) (ps : List Vl) (hr : (Vl.mk k ns ps).right = true) (hg : (Vl.mk k ns ps).rng) (hb : (Vl.mk k ns ps).byt ≤ 100000) (hk : k.kind ≠ 3) (w : World) (An : Option Addr) (m cn : Nat) (A : Option Addr) (n c : Nat) :
    Calls Tryd.prog 19 #[.agg (varr k An m cn A n c)] w fun e w' => e = .returned (.string (txS (.mk k ns ps))) ∧ Below w.heap.size w w' := by
  have b1 := bel1 w (.cells (varr k An m cn A n c) 25)
  have R1 := RowB.new w 25 (varr k An m cn A n c)
  have r1 := R1.cell
  obtain ⟨W, hW⟩ : ∃ W, W = w.alloc (.cells (varr k An m cn A n c) 25) := ⟨_, rfl⟩
  have HB : Hid (Below w.heap.size w W) := by rw [hW]; exact b1
  have e2 := hW
  rw [Vl.rng] at hg
  rw [Vl.byt] at hb
  have HTX : Hid ((txS (.mk k ns ps)).data.toList = (Vl.mk k ns ps).text) := txS_list _
  obtain ⟨X, hX⟩ : ∃ X, X = txS (.mk k ns ps) := ⟨_, rfl⟩
  rw [← hX] at HTX ⊢
  rw [Vl.text] at HTX
  obtain ⟨kd, kn, ks⟩ := k
  simp only at hk hg hb HTX
  have hz := decS_size hg.1.1 hg.1.2
  have CD := Lib.hid (decimal_any kn hg.1.1 hg.1.2 W)
  have CQ := Lib.hid (Qt.rquote_any ks W (by omega))
  have hkk : kd = 1 ∨ kd = 2 ∨ kd = 4 := by
    rcases right_cases hr with ⟨h1, _⟩ | ⟨h1, _⟩ | ⟨h1, _⟩ | ⟨h1, _⟩
    · exact .inl h1
    · exact .inr (.inl h1)
    · exact .inr (.inr h1)
    · exact absurd h1 hk
  rcases hkk with rfl | rfl | rfl
  · skip
    have HE : Hid (decS kn = X) := bytes_ext (by rw [decS_list, HTX.out]; simp)
    clear hr hg hb hk HTX b1 R1 hW hX CQ
    simp only [varr] at e2 r1
    go_enter Tryd.func19, Tryd.ntmps19
    go_wp2_with fail
    rw [← e2]
    refine CD.out.mono ?_
    rintro e w2 ⟨rfl, h2⟩
    have HB2 := Lib.hid (HB.out.trans (h2.mono HB.out.size))
    clear h2 e2 r1 CD
    go_wp2_with fail
    (first | go_ret | go_ret2)
    exact ⟨congrArg (fun b => Ending.returned (Value.string b)) HE.out, HB2.out⟩
  · skip
    have HE : Hid ((⟨(Qt.quoL ks.data.toList).toArray⟩ : ByteArray) = X) := bytes_ext (by rw [HTX.out]; simp)
    clear hr hg hb hk HTX b1 R1 hW hX CD hz
    simp only [varr] at e2 r1
    go_enter Tryd.func19, Tryd.ntmps19
    go_wp2_with fail
    rw [← e2]
    refine CQ.out.mono ?_
    rintro e w2 ⟨rfl, rfl⟩
    clear e2 r1 CQ
    go_wp2_with fail
    (first | go_ret | go_ret2)
    exact ⟨congrArg (fun b => Ending.returned (Value.string b)) HE.out, HB.out⟩
  · skip
    have HE : Hid ((⟨#[102, 110, 47]⟩ : ByteArray) ++ decS kn = X) := bytes_ext (by rw [app_list, decS_list, HTX.out]; simp)
    clear hr hg hb hk HTX b1 R1 hW hX CQ
    simp only [varr] at e2 r1
    go_enter Tryd.func19, Tryd.ntmps19
    go_wp2_with fail
    rw [← e2]
    refine CD.out.mono ?_
    rintro e w2 ⟨rfl, h2⟩
    have HB2 := Lib.hid (HB.out.trans (h2.mono HB.out.size))
    clear h2 e2 r1 CD
    go_wp2_with fail
    (first | go_ret | go_ret2)
    exact ⟨congrArg (fun b => Ending.returned (Value.string b)) HE.out, HB2.out⟩
set_option maxHeartbeats 8000000 in
set_option maxRecDepth 100000 in
theorem rtext_step (k : VH) (hk : k.kind = 3) (ns : List ByteArray) (ps : List Vl) (hlen : ns.length = ps.length) (hnl : ns.length ≤ 1000001) (hpl : (pieces 0 ns (textL ps)).length ≤ 3500000)
    (IH : ∀ p ∈ ps, ∀ (w : World) (P : Nat → Prop) (An : Option Addr) (cn : Nat) (A : Option Addr) (c : Nat), VI w P p An cn A c → Calls Tryd.prog 19 #[vv p An cn A c] w fun e w' => e = .returned (.string (txS p)) ∧ Below w.heap.size w w')
    (w : World) (P : Nat → Prop) (An : Option Addr) (cn : Nat) (A : Option Addr) (c : Nat) (hN : NV w P ns An cn) (hT : VV w P ps A c) :
    Calls Tryd.prog 19 #[.agg (varr k An ns.length cn A ps.length c)] w fun e w' => e = .returned (.string (txS (.mk k ns ps))) ∧ Below w.heap.size w w' := by
  replace hN := hN.low
  replace hT := hT.low
  obtain ⟨n, hn⟩ : ∃ n, n = ns.length := ⟨_, rfl⟩
  have hm : n = ps.length := hn.trans hlen
  have HN := Lib.hid hn
  have HM := Lib.hid hm
  have hn1 : n ≤ 1000001 := by omega
  rw [← hn, ← hm]
  have b1 := bel1 w (.cells (varr k An n cn A n c) 25)
  have R1 := RowB.new w 25 (varr k An n cn A n c)
  have r1 := R1.cell
  obtain ⟨W, hW⟩ : ∃ W, W = w.alloc (.cells (varr k An n cn A n c) 25) := ⟨_, rfl⟩
  have RT : Hid (RowB W w.heap.size 25 (varr k An n cn A n c)) := by rw [hW]; exact R1
  have HB : Hid (Below w.heap.size w W) := by rw [hW]; exact b1
  have HNV := Lib.hid hN
  have HVV := Lib.hid hT
  have HI := Lib.hid IH
  have HPL := Lib.hid hpl
  have e2 := hW
  have HTXX : Hid ((txS (.mk k ns ps)).data.toList = [123] ++ pieces 0 ns (textL ps) ++ [125]) := by
    unfold Hid
    rw [txS_list, Vl.text, if_neg (by omega), if_neg (by omega), if_neg (by omega), if_pos hk]
  obtain ⟨X, hX⟩ : ∃ X, X = txS (.mk k ns ps) := ⟨_, rfl⟩
  rw [← hX] at HTXX ⊢
  have HTL : Hid ((textL ps).length = ps.length) := by unfold Hid; rw [textL_map, List.length_map]
  obtain ⟨kd, kn, ks⟩ := k
  simp only at hk
  subst hk
  simp only [varr] at e2 r1 RT
  clear hN hT b1 R1 IH hm hn hnl hlen hW hX hpl
  go_enter Tryd.func19, Tryd.ntmps19
  go_wp2_with fail
  rw [← e2]
  clear e2 r1
  go_loopg [3, 4] (n + 1) (fun kx s3 s4 wr => ∃ (i : Nat) (O : ByteArray), s3 = .string O ∧ s4 = .int .i64 i ∧ n - i ≤ kx ∧ i ≤ n ∧ O.size ≤ 10000000 ∧ Hid (Below W.heap.size W wr) ∧ Hid (O.data.toList = 123 :: pieces 0 (ns.take i) ((textL ps).take i)))
  case atStart => exact ⟨0, _, rfl, rfl, by omega, by omega, by decide, Below.refl _ _, by simp [Hid, pieces]⟩
  case round =>
    obtain ⟨i, O, rfl, rfl, hkx, hin, hO, HWr, HO⟩ := hrel
    have HBr : Hid (Below w.heap.size w wr) := HB.out.trans (HWr.out.mono HB.out.size)
    have RTr := RT.out.below HWr.out RT.out.lt
    have c1 := RTr.cell
    have l1 := RTr.lt
    by_cases hi : i < n
    · have hil : (i : Int) < (n : Int) := by omega
      obtain ⟨p, ep⟩ := get_lt (l := ps) (i := i) (by rw [← HM.out]; exact hi)
      obtain ⟨s, es'⟩ := get_lt (l := ns) (i := i) (by rw [← HN.out]; exact hi)
      have es := Lib.hid es'
      have et : Hid ((textL ps)[i]? = some p.text) := by unfold Hid; rw [textL_map, List.getElem?_map, ep]; rfl
      obtain ⟨g0, o0, hA0, hP0, hg0, y, hsx⟩ := (HNV.out.below HBr.out).nth es'
      obtain ⟨g, oo, An2, cn2, A2, c2, hA, hP, hg, hti, z0, z1, z2, z3, z4⟩ := (HVV.out.below HBr.out).nth ep
      have D1 : Below wr.heap.size wr wr.drew := Below.drew (Below.refl _ _)
      have CT := Lib.hid (HI.out p (List.mem_of_getElem? ep) wr.drew _ An2 cn2 A2 c2 (hti.below D1))
      have HTX : Hid ((txS p).data.toList = p.text) := txS_list p
      obtain ⟨tx, htx⟩ : ∃ tx, tx = txS p := ⟨_, rfl⟩
      rw [← htx] at CT HTX
      obtain ⟨j, hj⟩ : ∃ j, j = i + 1 := ⟨_, rfl⟩
      subst hA hA0
      obtain ⟨ph, pn, pp⟩ := p
      simp only [vv, hd_mk, names_mk, parts_mk] at z0 z1 z2 z3 z4 CT
      clear ep es' hti hP hP0 hsx htx RTr
      by_cases hi0 : i = 0
      · have q0 : ¬ (i : Int) > 0 := by omega
        have HI0 := Lib.hid hi0
        clear hi0
        have HO2 : Hid ((O ++ s ++ ⟨#[58, 32]⟩ ++ tx).data.toList = 123 :: pieces 0 (ns.take j) ((textL ps).take j)) := by
          unfold Hid
          rw [hj, pieces_snoc es.out et.out, app_list, app_list, app_list, HTX.out]
          rw [HO.out, if_pos (by have := HI0.out; omega)]; simp
        have hz2 : (O ++ s ++ ⟨#[58, 32]⟩ ++ tx).size ≤ 10000000 := by
          have h1 := congrArg List.length HO2.out
          rw [List.length_cons] at h1
          have h2 : (O ++ s ++ ⟨#[58, 32]⟩ ++ tx).data.toList.length = (O ++ s ++ ⟨#[58, 32]⟩ ++ tx).size := Array.length_toList
          have h3 := pieces_le (ns := ns) (ts := textL ps) (k := 0) (i := j)
          have h4 := HPL.out
          omega
        have e1 : (O ++ s ++ ⟨#[58, 32]⟩ ++ tx).size = O.size + s.size + 2 + tx.size := by
          rw [ByteArray.size_append, ByteArray.size_append, ByteArray.size_append]
          rfl
        have b1 : ¬ 9223372036854775807 < O.size + s.size := by omega
        have b2 : ¬ 9223372036854775807 < O.size + s.size + 2 := by omega
        have b3 : ¬ 9223372036854775807 < O.size + s.size + 2 + tx.size := by omega
        clear e1
        go_upto_region 14 with fail
        refine wp_region_G (S := SG (fun w' => Below wr.heap.size wr w') 99 (fun _ => True) 99 (fun _ => True)) (by kernel_rfl) ⟨D1, fun _ => trivial, fun _ => trivial⟩ (fun hS => ?_)
        refine wpG_take0 (i := 0) (v := ?v1) rfl (by kernel_rfl) (by kernel_rfl) (by kernel_rfl) (by decide) (by decide) (fun _ _ _ h => h) hS (Or.inl ⟨by rfl, ?hy1⟩) ?rest1
        case hy1 => (intro w' hw; (try dsimp only at hw); have u1 := fun j => (hw.cell (p := ⟨w.heap.size, j, none⟩) l1).trans (c1 j); have u2 := (hw.cell (p := ⟨g0, o0 + i, none⟩) hg0).trans y; have u3 := (hw.cell (p := ⟨g, oo + i * 5, none⟩) hg).trans z0; have u4 := (hw.cell (p := ⟨g, oo + i * 5 + 1, none⟩) hg).trans z1; have u5 := (hw.cell (p := ⟨g, oo + i * 5 + 2, none⟩) hg).trans z2; have u6 := (hw.cell (p := ⟨g, oo + i * 5 + 3, none⟩) hg).trans z3; have u7 := (hw.cell (p := ⟨g, oo + i * 5 + 4, none⟩) hg).trans z4; go_simp; try with_reducible rfl)
        replace hS := SG.set (i := 0) (by decide) (by decide) hS
        try simp only [Act.put, List.setIfInBounds_toArray, List.set_cons_zero, List.set_cons_succ]
        refine wpG_take0 (i := 1) (v := ?v2) rfl (by kernel_rfl) (by kernel_rfl) (by kernel_rfl) (by decide) (by decide) (fun _ _ _ h => h) hS (Or.inl ⟨by rfl, ?hy2⟩) ?rest2
        case hy2 => (intro w' hw; (try dsimp only at hw); have u1 := fun j => (hw.cell (p := ⟨w.heap.size, j, none⟩) l1).trans (c1 j); have u2 := (hw.cell (p := ⟨g0, o0 + i, none⟩) hg0).trans y; have u3 := (hw.cell (p := ⟨g, oo + i * 5, none⟩) hg).trans z0; have u4 := (hw.cell (p := ⟨g, oo + i * 5 + 1, none⟩) hg).trans z1; have u5 := (hw.cell (p := ⟨g, oo + i * 5 + 2, none⟩) hg).trans z2; have u6 := (hw.cell (p := ⟨g, oo + i * 5 + 3, none⟩) hg).trans z3; have u7 := (hw.cell (p := ⟨g, oo + i * 5 + 4, none⟩) hg).trans z4; go_simp; try with_reducible rfl)
        replace hS := SG.set (i := 1) (by decide) (by decide) hS
        try simp only [Act.put, List.setIfInBounds_toArray, List.set_cons_zero, List.set_cons_succ]
        refine wpG_take0 (i := 2) (v := ?v3) rfl (by kernel_rfl) (by kernel_rfl) (by kernel_rfl) (by decide) (by decide) (fun _ _ _ h => h) hS (Or.inl ⟨by rfl, ?hy3⟩) ?rest3
        case hy3 => (intro w' hw; (try dsimp only at hw); have u1 := fun j => (hw.cell (p := ⟨w.heap.size, j, none⟩) l1).trans (c1 j); have u2 := (hw.cell (p := ⟨g0, o0 + i, none⟩) hg0).trans y; have u3 := (hw.cell (p := ⟨g, oo + i * 5, none⟩) hg).trans z0; have u4 := (hw.cell (p := ⟨g, oo + i * 5 + 1, none⟩) hg).trans z1; have u5 := (hw.cell (p := ⟨g, oo + i * 5 + 2, none⟩) hg).trans z2; have u6 := (hw.cell (p := ⟨g, oo + i * 5 + 3, none⟩) hg).trans z3; have u7 := (hw.cell (p := ⟨g, oo + i * 5 + 4, none⟩) hg).trans z4; go_simp; try with_reducible rfl)
        replace hS := SG.set (i := 2) (by decide) (by decide) hS
        try simp only [Act.put, List.setIfInBounds_toArray, List.set_cons_zero, List.set_cons_succ]
        refine wpG_take0 (i := 3) (v := ?v4) rfl (by kernel_rfl) (by kernel_rfl) (by kernel_rfl) (by decide) (by decide) (fun _ _ _ h => h) hS (Or.inl ⟨by rfl, ?hy4⟩) ?rest4
        case hy4 => (intro w' hw; (try dsimp only at hw); have u1 := fun j => (hw.cell (p := ⟨w.heap.size, j, none⟩) l1).trans (c1 j); have u2 := (hw.cell (p := ⟨g0, o0 + i, none⟩) hg0).trans y; have u3 := (hw.cell (p := ⟨g, oo + i * 5, none⟩) hg).trans z0; have u4 := (hw.cell (p := ⟨g, oo + i * 5 + 1, none⟩) hg).trans z1; have u5 := (hw.cell (p := ⟨g, oo + i * 5 + 2, none⟩) hg).trans z2; have u6 := (hw.cell (p := ⟨g, oo + i * 5 + 3, none⟩) hg).trans z3; have u7 := (hw.cell (p := ⟨g, oo + i * 5 + 4, none⟩) hg).trans z4; go_simp; try with_reducible rfl)
        replace hS := SG.set (i := 3) (by decide) (by decide) hS
        try simp only [Act.put, List.setIfInBounds_toArray, List.set_cons_zero, List.set_cons_succ]
        refine wpG_take0 (i := 4) (v := ?v5) rfl (by kernel_rfl) (by kernel_rfl) (by kernel_rfl) (by decide) (by decide) (fun _ _ _ h => h) hS (Or.inl ⟨by rfl, ?hy5⟩) ?rest5
        case hy5 => (intro w' hw; (try dsimp only at hw); have u1 := fun j => (hw.cell (p := ⟨w.heap.size, j, none⟩) l1).trans (c1 j); have u2 := (hw.cell (p := ⟨g0, o0 + i, none⟩) hg0).trans y; have u3 := (hw.cell (p := ⟨g, oo + i * 5, none⟩) hg).trans z0; have u4 := (hw.cell (p := ⟨g, oo + i * 5 + 1, none⟩) hg).trans z1; have u5 := (hw.cell (p := ⟨g, oo + i * 5 + 2, none⟩) hg).trans z2; have u6 := (hw.cell (p := ⟨g, oo + i * 5 + 3, none⟩) hg).trans z3; have u7 := (hw.cell (p := ⟨g, oo + i * 5 + 4, none⟩) hg).trans z4; go_simp; try with_reducible rfl)
        replace hS := SG.set (i := 4) (by decide) (by decide) hS
        try simp only [Act.put, List.setIfInBounds_toArray, List.set_cons_zero, List.set_cons_succ]
        refine wpG_take0 (i := 5) (v := ?v6) rfl (by kernel_rfl) (by kernel_rfl) (by kernel_rfl) (by decide) (by decide) (fun _ _ _ h => h) hS (Or.inl ⟨by rfl, ?hy6⟩) ?rest6
        case hy6 => (intro w' hw; (try dsimp only at hw); have u1 := fun j => (hw.cell (p := ⟨w.heap.size, j, none⟩) l1).trans (c1 j); have u2 := (hw.cell (p := ⟨g0, o0 + i, none⟩) hg0).trans y; have u3 := (hw.cell (p := ⟨g, oo + i * 5, none⟩) hg).trans z0; have u4 := (hw.cell (p := ⟨g, oo + i * 5 + 1, none⟩) hg).trans z1; have u5 := (hw.cell (p := ⟨g, oo + i * 5 + 2, none⟩) hg).trans z2; have u6 := (hw.cell (p := ⟨g, oo + i * 5 + 3, none⟩) hg).trans z3; have u7 := (hw.cell (p := ⟨g, oo + i * 5 + 4, none⟩) hg).trans z4; go_simp; try with_reducible rfl)
        replace hS := SG.set (i := 5) (by decide) (by decide) hS
        try simp only [Act.put, List.setIfInBounds_toArray, List.set_cons_zero, List.set_cons_succ]
        refine wpG_take0 (i := 6) (v := ?v7) rfl (by kernel_rfl) (by kernel_rfl) (by kernel_rfl) (by decide) (by decide) (fun _ _ _ h => h) hS (Or.inl ⟨by rfl, ?hy7⟩) ?rest7
        case hy7 => (intro w' hw; (try dsimp only at hw); have u1 := fun j => (hw.cell (p := ⟨w.heap.size, j, none⟩) l1).trans (c1 j); have u2 := (hw.cell (p := ⟨g0, o0 + i, none⟩) hg0).trans y; have u3 := (hw.cell (p := ⟨g, oo + i * 5, none⟩) hg).trans z0; have u4 := (hw.cell (p := ⟨g, oo + i * 5 + 1, none⟩) hg).trans z1; have u5 := (hw.cell (p := ⟨g, oo + i * 5 + 2, none⟩) hg).trans z2; have u6 := (hw.cell (p := ⟨g, oo + i * 5 + 3, none⟩) hg).trans z3; have u7 := (hw.cell (p := ⟨g, oo + i * 5 + 4, none⟩) hg).trans z4; go_simp; try with_reducible rfl)
        replace hS := SG.set (i := 6) (by decide) (by decide) hS
        try simp only [Act.put, List.setIfInBounds_toArray, List.set_cons_zero, List.set_cons_succ]
        refine wpG_take0 (i := 7) (v := ?v8) rfl (by kernel_rfl) (by kernel_rfl) (by kernel_rfl) (by decide) (by decide) (fun _ _ _ h => h) hS (Or.inl ⟨by rfl, ?hy8⟩) ?rest8
        case hy8 => (intro w' hw; (try dsimp only at hw); have u1 := fun j => (hw.cell (p := ⟨w.heap.size, j, none⟩) l1).trans (c1 j); have u2 := (hw.cell (p := ⟨g0, o0 + i, none⟩) hg0).trans y; have u3 := (hw.cell (p := ⟨g, oo + i * 5, none⟩) hg).trans z0; have u4 := (hw.cell (p := ⟨g, oo + i * 5 + 1, none⟩) hg).trans z1; have u5 := (hw.cell (p := ⟨g, oo + i * 5 + 2, none⟩) hg).trans z2; have u6 := (hw.cell (p := ⟨g, oo + i * 5 + 3, none⟩) hg).trans z3; have u7 := (hw.cell (p := ⟨g, oo + i * 5 + 4, none⟩) hg).trans z4; go_simp; try with_reducible rfl)
        replace hS := SG.set (i := 7) (by decide) (by decide) hS
        try simp only [Act.put, List.setIfInBounds_toArray, List.set_cons_zero, List.set_cons_succ]
        refine wpG_take0 (i := 8) (v := ?v9) rfl (by kernel_rfl) (by kernel_rfl) (by kernel_rfl) (by decide) (by decide) (fun _ _ _ h => h) hS (Or.inl ⟨by rfl, ?hy9⟩) ?rest9
        case hy9 => (intro w' hw; (try dsimp only at hw); have u1 := fun j => (hw.cell (p := ⟨w.heap.size, j, none⟩) l1).trans (c1 j); have u2 := (hw.cell (p := ⟨g0, o0 + i, none⟩) hg0).trans y; have u3 := (hw.cell (p := ⟨g, oo + i * 5, none⟩) hg).trans z0; have u4 := (hw.cell (p := ⟨g, oo + i * 5 + 1, none⟩) hg).trans z1; have u5 := (hw.cell (p := ⟨g, oo + i * 5 + 2, none⟩) hg).trans z2; have u6 := (hw.cell (p := ⟨g, oo + i * 5 + 3, none⟩) hg).trans z3; have u7 := (hw.cell (p := ⟨g, oo + i * 5 + 4, none⟩) hg).trans z4; go_simp; try with_reducible rfl)
        replace hS := SG.set (i := 8) (by decide) (by decide) hS
        try simp only [Act.put, List.setIfInBounds_toArray, List.set_cons_zero, List.set_cons_succ]
        refine wpG_take0 (i := 9) (v := ?v10) rfl (by kernel_rfl) (by kernel_rfl) (by kernel_rfl) (by decide) (by decide) (fun _ _ _ h => h) hS (Or.inl ⟨by rfl, ?hy10⟩) ?rest10
        case hy10 => (intro w' hw; (try dsimp only at hw); have u1 := fun j => (hw.cell (p := ⟨w.heap.size, j, none⟩) l1).trans (c1 j); have u2 := (hw.cell (p := ⟨g0, o0 + i, none⟩) hg0).trans y; have u3 := (hw.cell (p := ⟨g, oo + i * 5, none⟩) hg).trans z0; have u4 := (hw.cell (p := ⟨g, oo + i * 5 + 1, none⟩) hg).trans z1; have u5 := (hw.cell (p := ⟨g, oo + i * 5 + 2, none⟩) hg).trans z2; have u6 := (hw.cell (p := ⟨g, oo + i * 5 + 3, none⟩) hg).trans z3; have u7 := (hw.cell (p := ⟨g, oo + i * 5 + 4, none⟩) hg).trans z4; go_simp; try with_reducible rfl)
        replace hS := SG.set (i := 9) (by decide) (by decide) hS
        try simp only [Act.put, List.setIfInBounds_toArray, List.set_cons_zero, List.set_cons_succ]
        refine wpG_take0 (i := 10) (v := ?v11) rfl (by kernel_rfl) (by kernel_rfl) (by kernel_rfl) (by decide) (by decide) (fun _ _ _ h => h) hS (Or.inl ⟨by rfl, ?hy11⟩) ?rest11
        case hy11 => (intro w' hw; (try dsimp only at hw); have u1 := fun j => (hw.cell (p := ⟨w.heap.size, j, none⟩) l1).trans (c1 j); have u2 := (hw.cell (p := ⟨g0, o0 + i, none⟩) hg0).trans y; have u3 := (hw.cell (p := ⟨g, oo + i * 5, none⟩) hg).trans z0; have u4 := (hw.cell (p := ⟨g, oo + i * 5 + 1, none⟩) hg).trans z1; have u5 := (hw.cell (p := ⟨g, oo + i * 5 + 2, none⟩) hg).trans z2; have u6 := (hw.cell (p := ⟨g, oo + i * 5 + 3, none⟩) hg).trans z3; have u7 := (hw.cell (p := ⟨g, oo + i * 5 + 4, none⟩) hg).trans z4; go_simp; try with_reducible rfl)
        replace hS := SG.set (i := 10) (by decide) (by decide) hS
        try simp only [Act.put, List.setIfInBounds_toArray, List.set_cons_zero, List.set_cons_succ]
        refine wpG_take0 (i := 11) (v := ?v12) rfl (by kernel_rfl) (by kernel_rfl) (by kernel_rfl) (by decide) (by decide) (fun _ _ _ h => h) hS (Or.inl ⟨by rfl, ?hy12⟩) ?rest12
        case hy12 => (intro w' hw; (try dsimp only at hw); have u1 := fun j => (hw.cell (p := ⟨w.heap.size, j, none⟩) l1).trans (c1 j); have u2 := (hw.cell (p := ⟨g0, o0 + i, none⟩) hg0).trans y; have u3 := (hw.cell (p := ⟨g, oo + i * 5, none⟩) hg).trans z0; have u4 := (hw.cell (p := ⟨g, oo + i * 5 + 1, none⟩) hg).trans z1; have u5 := (hw.cell (p := ⟨g, oo + i * 5 + 2, none⟩) hg).trans z2; have u6 := (hw.cell (p := ⟨g, oo + i * 5 + 3, none⟩) hg).trans z3; have u7 := (hw.cell (p := ⟨g, oo + i * 5 + 4, none⟩) hg).trans z4; go_simp; try with_reducible rfl)
        replace hS := SG.set (i := 11) (by decide) (by decide) hS
        try simp only [Act.put, List.setIfInBounds_toArray, List.set_cons_zero, List.set_cons_succ]
        refine wpG_take0 (i := 12) (v := ?v13) rfl (by kernel_rfl) (by kernel_rfl) (by kernel_rfl) (by decide) (by decide) (fun _ _ _ h => h) hS (Or.inl ⟨by rfl, ?hy13⟩) ?rest13
        case hy13 => (intro w' hw; (try dsimp only at hw); have u1 := fun j => (hw.cell (p := ⟨w.heap.size, j, none⟩) l1).trans (c1 j); have u2 := (hw.cell (p := ⟨g0, o0 + i, none⟩) hg0).trans y; have u3 := (hw.cell (p := ⟨g, oo + i * 5, none⟩) hg).trans z0; have u4 := (hw.cell (p := ⟨g, oo + i * 5 + 1, none⟩) hg).trans z1; have u5 := (hw.cell (p := ⟨g, oo + i * 5 + 2, none⟩) hg).trans z2; have u6 := (hw.cell (p := ⟨g, oo + i * 5 + 3, none⟩) hg).trans z3; have u7 := (hw.cell (p := ⟨g, oo + i * 5 + 4, none⟩) hg).trans z4; go_simp; try with_reducible rfl)
        replace hS := SG.set (i := 12) (by decide) (by decide) hS
        try simp only [Act.put, List.setIfInBounds_toArray, List.set_cons_zero, List.set_cons_succ]
        refine wpG_ready (rs := [13]) (by kernel_rfl) (by simp) ?_
        refine RG.consG rfl rfl (fun K hK => ?_) RG.nil
        go_simp
        refine CT.out.mono ?_
        rintro e x1 ⟨rfl, hx1⟩
        go_wp2_with fail
        have HG1 := Lib.hid (D1.trans (hx1.mono D1.size))
        clear hx1
        refine hK.out _ _ ⟨HG1.out, fun _ => trivial, fun _ => trivial⟩ (fun hS => ?_)
        clear hK K
        try simp only [Act.put, List.setIfInBounds_toArray, List.set_cons_zero, List.set_cons_succ]
        refine wpG_take0 (i := 14) (v := ?v14) rfl (by kernel_rfl) (by kernel_rfl) (by kernel_rfl) (by decide) (by decide) (fun _ _ _ h => h) hS (Or.inl ⟨by rfl, ?hy14⟩) ?rest14
        case hy14 => (intro w' hw; (try dsimp only at hw); have u1 := fun j => (hw.cell (p := ⟨w.heap.size, j, none⟩) l1).trans (c1 j); have u2 := (hw.cell (p := ⟨g0, o0 + i, none⟩) hg0).trans y; have u3 := (hw.cell (p := ⟨g, oo + i * 5, none⟩) hg).trans z0; have u4 := (hw.cell (p := ⟨g, oo + i * 5 + 1, none⟩) hg).trans z1; have u5 := (hw.cell (p := ⟨g, oo + i * 5 + 2, none⟩) hg).trans z2; have u6 := (hw.cell (p := ⟨g, oo + i * 5 + 3, none⟩) hg).trans z3; have u7 := (hw.cell (p := ⟨g, oo + i * 5 + 4, none⟩) hg).trans z4; go_simp; try with_reducible rfl)
        replace hS := SG.set (i := 14) (by decide) (by decide) hS
        try simp only [Act.put, List.setIfInBounds_toArray, List.set_cons_zero, List.set_cons_succ]
        refine wpG_take0 (i := 15) (v := ?v15) rfl (by kernel_rfl) (by kernel_rfl) (by kernel_rfl) (by decide) (by decide) (fun _ _ _ h => h) hS (Or.inl ⟨by rfl, ?hy15⟩) ?rest15
        case hy15 => (intro w' hw; (try dsimp only at hw); have u1 := fun j => (hw.cell (p := ⟨w.heap.size, j, none⟩) l1).trans (c1 j); have u2 := (hw.cell (p := ⟨g0, o0 + i, none⟩) hg0).trans y; have u3 := (hw.cell (p := ⟨g, oo + i * 5, none⟩) hg).trans z0; have u4 := (hw.cell (p := ⟨g, oo + i * 5 + 1, none⟩) hg).trans z1; have u5 := (hw.cell (p := ⟨g, oo + i * 5 + 2, none⟩) hg).trans z2; have u6 := (hw.cell (p := ⟨g, oo + i * 5 + 3, none⟩) hg).trans z3; have u7 := (hw.cell (p := ⟨g, oo + i * 5 + 4, none⟩) hg).trans z4; go_simp; try with_reducible rfl)
        replace hS := SG.set (i := 15) (by decide) (by decide) hS
        try simp only [Act.put, List.setIfInBounds_toArray, List.set_cons_zero, List.set_cons_succ]
        refine wpG_done (by kernel_rfl) ?_ _
        have HX2 := Lib.hid (HWr.out.trans (HG1.out.mono HWr.out.size))
        clear hS D1 c1 l1 HG1 CT b1 b2 b3
        go_wp2_with fail
        go_roundg (n - j)
        case measure => omega
        case rel => exact ⟨j, _, rfl, by rw [hj]; go_num, by omega, by omega, by omega, HX2.out, HO2.out⟩
      · have q0 : (i : Int) > 0 := by omega
        have HI0 := Lib.hid hi0
        clear hi0
        have HC : Hid ((O ++ ⟨#[44, 32]⟩ : ByteArray).data.toList = 123 :: (pieces 0 (ns.take i) ((textL ps).take i) ++ [44, 32])) := by
          unfold Hid
          rw [app_list, HO.out]
          simp
        have HO2 : Hid ((O ++ ⟨#[44, 32]⟩ ++ s ++ ⟨#[58, 32]⟩ ++ tx).data.toList = 123 :: pieces 0 (ns.take j) ((textL ps).take j)) := by
          unfold Hid
          rw [hj, pieces_snoc es.out et.out, app_list, app_list, app_list, HTX.out]
          rw [HC.out, if_neg (by have := HI0.out; omega)]; simp
        have hz2 : (O ++ ⟨#[44, 32]⟩ ++ s ++ ⟨#[58, 32]⟩ ++ tx).size ≤ 10000000 := by
          have h1 := congrArg List.length HO2.out
          rw [List.length_cons] at h1
          have h2 : (O ++ ⟨#[44, 32]⟩ ++ s ++ ⟨#[58, 32]⟩ ++ tx).data.toList.length = (O ++ ⟨#[44, 32]⟩ ++ s ++ ⟨#[58, 32]⟩ ++ tx).size := Array.length_toList
          have h3 := pieces_le (ns := ns) (ts := textL ps) (k := 0) (i := j)
          have h4 := HPL.out
          omega
        have e1 : (O ++ ⟨#[44, 32]⟩ ++ s ++ ⟨#[58, 32]⟩ ++ tx).size = (O.size + 2) + s.size + 2 + tx.size := by
          rw [ByteArray.size_append, ByteArray.size_append, ByteArray.size_append]
          rw [ByteArray.size_append]; rfl
        have b1 : ¬ 9223372036854775807 < (O.size + 2) + s.size := by omega
        have b2 : ¬ 9223372036854775807 < (O.size + 2) + s.size + 2 := by omega
        have b3 : ¬ 9223372036854775807 < (O.size + 2) + s.size + 2 + tx.size := by omega
        clear e1
        go_upto_region 14 with fail
        refine wp_region_G (S := SG (fun w' => Below wr.heap.size wr w') 99 (fun _ => True) 99 (fun _ => True)) (by kernel_rfl) ⟨D1, fun _ => trivial, fun _ => trivial⟩ (fun hS => ?_)
        refine wpG_take0 (i := 0) (v := ?v16) rfl (by kernel_rfl) (by kernel_rfl) (by kernel_rfl) (by decide) (by decide) (fun _ _ _ h => h) hS (Or.inl ⟨by rfl, ?hy16⟩) ?rest16
        case hy16 => (intro w' hw; (try dsimp only at hw); have u1 := fun j => (hw.cell (p := ⟨w.heap.size, j, none⟩) l1).trans (c1 j); have u2 := (hw.cell (p := ⟨g0, o0 + i, none⟩) hg0).trans y; have u3 := (hw.cell (p := ⟨g, oo + i * 5, none⟩) hg).trans z0; have u4 := (hw.cell (p := ⟨g, oo + i * 5 + 1, none⟩) hg).trans z1; have u5 := (hw.cell (p := ⟨g, oo + i * 5 + 2, none⟩) hg).trans z2; have u6 := (hw.cell (p := ⟨g, oo + i * 5 + 3, none⟩) hg).trans z3; have u7 := (hw.cell (p := ⟨g, oo + i * 5 + 4, none⟩) hg).trans z4; go_simp; try with_reducible rfl)
        replace hS := SG.set (i := 0) (by decide) (by decide) hS
        try simp only [Act.put, List.setIfInBounds_toArray, List.set_cons_zero, List.set_cons_succ]
        refine wpG_take0 (i := 1) (v := ?v17) rfl (by kernel_rfl) (by kernel_rfl) (by kernel_rfl) (by decide) (by decide) (fun _ _ _ h => h) hS (Or.inl ⟨by rfl, ?hy17⟩) ?rest17
        case hy17 => (intro w' hw; (try dsimp only at hw); have u1 := fun j => (hw.cell (p := ⟨w.heap.size, j, none⟩) l1).trans (c1 j); have u2 := (hw.cell (p := ⟨g0, o0 + i, none⟩) hg0).trans y; have u3 := (hw.cell (p := ⟨g, oo + i * 5, none⟩) hg).trans z0; have u4 := (hw.cell (p := ⟨g, oo + i * 5 + 1, none⟩) hg).trans z1; have u5 := (hw.cell (p := ⟨g, oo + i * 5 + 2, none⟩) hg).trans z2; have u6 := (hw.cell (p := ⟨g, oo + i * 5 + 3, none⟩) hg).trans z3; have u7 := (hw.cell (p := ⟨g, oo + i * 5 + 4, none⟩) hg).trans z4; go_simp; try with_reducible rfl)
        replace hS := SG.set (i := 1) (by decide) (by decide) hS
        try simp only [Act.put, List.setIfInBounds_toArray, List.set_cons_zero, List.set_cons_succ]
        refine wpG_take0 (i := 2) (v := ?v18) rfl (by kernel_rfl) (by kernel_rfl) (by kernel_rfl) (by decide) (by decide) (fun _ _ _ h => h) hS (Or.inl ⟨by rfl, ?hy18⟩) ?rest18
        case hy18 => (intro w' hw; (try dsimp only at hw); have u1 := fun j => (hw.cell (p := ⟨w.heap.size, j, none⟩) l1).trans (c1 j); have u2 := (hw.cell (p := ⟨g0, o0 + i, none⟩) hg0).trans y; have u3 := (hw.cell (p := ⟨g, oo + i * 5, none⟩) hg).trans z0; have u4 := (hw.cell (p := ⟨g, oo + i * 5 + 1, none⟩) hg).trans z1; have u5 := (hw.cell (p := ⟨g, oo + i * 5 + 2, none⟩) hg).trans z2; have u6 := (hw.cell (p := ⟨g, oo + i * 5 + 3, none⟩) hg).trans z3; have u7 := (hw.cell (p := ⟨g, oo + i * 5 + 4, none⟩) hg).trans z4; go_simp; try with_reducible rfl)
        replace hS := SG.set (i := 2) (by decide) (by decide) hS
        try simp only [Act.put, List.setIfInBounds_toArray, List.set_cons_zero, List.set_cons_succ]
        refine wpG_take0 (i := 3) (v := ?v19) rfl (by kernel_rfl) (by kernel_rfl) (by kernel_rfl) (by decide) (by decide) (fun _ _ _ h => h) hS (Or.inl ⟨by rfl, ?hy19⟩) ?rest19
        case hy19 => (intro w' hw; (try dsimp only at hw); have u1 := fun j => (hw.cell (p := ⟨w.heap.size, j, none⟩) l1).trans (c1 j); have u2 := (hw.cell (p := ⟨g0, o0 + i, none⟩) hg0).trans y; have u3 := (hw.cell (p := ⟨g, oo + i * 5, none⟩) hg).trans z0; have u4 := (hw.cell (p := ⟨g, oo + i * 5 + 1, none⟩) hg).trans z1; have u5 := (hw.cell (p := ⟨g, oo + i * 5 + 2, none⟩) hg).trans z2; have u6 := (hw.cell (p := ⟨g, oo + i * 5 + 3, none⟩) hg).trans z3; have u7 := (hw.cell (p := ⟨g, oo + i * 5 + 4, none⟩) hg).trans z4; go_simp; try with_reducible rfl)
        replace hS := SG.set (i := 3) (by decide) (by decide) hS
        try simp only [Act.put, List.setIfInBounds_toArray, List.set_cons_zero, List.set_cons_succ]
        refine wpG_take0 (i := 4) (v := ?v20) rfl (by kernel_rfl) (by kernel_rfl) (by kernel_rfl) (by decide) (by decide) (fun _ _ _ h => h) hS (Or.inl ⟨by rfl, ?hy20⟩) ?rest20
        case hy20 => (intro w' hw; (try dsimp only at hw); have u1 := fun j => (hw.cell (p := ⟨w.heap.size, j, none⟩) l1).trans (c1 j); have u2 := (hw.cell (p := ⟨g0, o0 + i, none⟩) hg0).trans y; have u3 := (hw.cell (p := ⟨g, oo + i * 5, none⟩) hg).trans z0; have u4 := (hw.cell (p := ⟨g, oo + i * 5 + 1, none⟩) hg).trans z1; have u5 := (hw.cell (p := ⟨g, oo + i * 5 + 2, none⟩) hg).trans z2; have u6 := (hw.cell (p := ⟨g, oo + i * 5 + 3, none⟩) hg).trans z3; have u7 := (hw.cell (p := ⟨g, oo + i * 5 + 4, none⟩) hg).trans z4; go_simp; try with_reducible rfl)
        replace hS := SG.set (i := 4) (by decide) (by decide) hS
        try simp only [Act.put, List.setIfInBounds_toArray, List.set_cons_zero, List.set_cons_succ]
        refine wpG_take0 (i := 5) (v := ?v21) rfl (by kernel_rfl) (by kernel_rfl) (by kernel_rfl) (by decide) (by decide) (fun _ _ _ h => h) hS (Or.inl ⟨by rfl, ?hy21⟩) ?rest21
        case hy21 => (intro w' hw; (try dsimp only at hw); have u1 := fun j => (hw.cell (p := ⟨w.heap.size, j, none⟩) l1).trans (c1 j); have u2 := (hw.cell (p := ⟨g0, o0 + i, none⟩) hg0).trans y; have u3 := (hw.cell (p := ⟨g, oo + i * 5, none⟩) hg).trans z0; have u4 := (hw.cell (p := ⟨g, oo + i * 5 + 1, none⟩) hg).trans z1; have u5 := (hw.cell (p := ⟨g, oo + i * 5 + 2, none⟩) hg).trans z2; have u6 := (hw.cell (p := ⟨g, oo + i * 5 + 3, none⟩) hg).trans z3; have u7 := (hw.cell (p := ⟨g, oo + i * 5 + 4, none⟩) hg).trans z4; go_simp; try with_reducible rfl)
        replace hS := SG.set (i := 5) (by decide) (by decide) hS
        try simp only [Act.put, List.setIfInBounds_toArray, List.set_cons_zero, List.set_cons_succ]
        refine wpG_take0 (i := 6) (v := ?v22) rfl (by kernel_rfl) (by kernel_rfl) (by kernel_rfl) (by decide) (by decide) (fun _ _ _ h => h) hS (Or.inl ⟨by rfl, ?hy22⟩) ?rest22
        case hy22 => (intro w' hw; (try dsimp only at hw); have u1 := fun j => (hw.cell (p := ⟨w.heap.size, j, none⟩) l1).trans (c1 j); have u2 := (hw.cell (p := ⟨g0, o0 + i, none⟩) hg0).trans y; have u3 := (hw.cell (p := ⟨g, oo + i * 5, none⟩) hg).trans z0; have u4 := (hw.cell (p := ⟨g, oo + i * 5 + 1, none⟩) hg).trans z1; have u5 := (hw.cell (p := ⟨g, oo + i * 5 + 2, none⟩) hg).trans z2; have u6 := (hw.cell (p := ⟨g, oo + i * 5 + 3, none⟩) hg).trans z3; have u7 := (hw.cell (p := ⟨g, oo + i * 5 + 4, none⟩) hg).trans z4; go_simp; try with_reducible rfl)
        replace hS := SG.set (i := 6) (by decide) (by decide) hS
        try simp only [Act.put, List.setIfInBounds_toArray, List.set_cons_zero, List.set_cons_succ]
        refine wpG_take0 (i := 7) (v := ?v23) rfl (by kernel_rfl) (by kernel_rfl) (by kernel_rfl) (by decide) (by decide) (fun _ _ _ h => h) hS (Or.inl ⟨by rfl, ?hy23⟩) ?rest23
        case hy23 => (intro w' hw; (try dsimp only at hw); have u1 := fun j => (hw.cell (p := ⟨w.heap.size, j, none⟩) l1).trans (c1 j); have u2 := (hw.cell (p := ⟨g0, o0 + i, none⟩) hg0).trans y; have u3 := (hw.cell (p := ⟨g, oo + i * 5, none⟩) hg).trans z0; have u4 := (hw.cell (p := ⟨g, oo + i * 5 + 1, none⟩) hg).trans z1; have u5 := (hw.cell (p := ⟨g, oo + i * 5 + 2, none⟩) hg).trans z2; have u6 := (hw.cell (p := ⟨g, oo + i * 5 + 3, none⟩) hg).trans z3; have u7 := (hw.cell (p := ⟨g, oo + i * 5 + 4, none⟩) hg).trans z4; go_simp; try with_reducible rfl)
        replace hS := SG.set (i := 7) (by decide) (by decide) hS
        try simp only [Act.put, List.setIfInBounds_toArray, List.set_cons_zero, List.set_cons_succ]
        refine wpG_take0 (i := 8) (v := ?v24) rfl (by kernel_rfl) (by kernel_rfl) (by kernel_rfl) (by decide) (by decide) (fun _ _ _ h => h) hS (Or.inl ⟨by rfl, ?hy24⟩) ?rest24
        case hy24 => (intro w' hw; (try dsimp only at hw); have u1 := fun j => (hw.cell (p := ⟨w.heap.size, j, none⟩) l1).trans (c1 j); have u2 := (hw.cell (p := ⟨g0, o0 + i, none⟩) hg0).trans y; have u3 := (hw.cell (p := ⟨g, oo + i * 5, none⟩) hg).trans z0; have u4 := (hw.cell (p := ⟨g, oo + i * 5 + 1, none⟩) hg).trans z1; have u5 := (hw.cell (p := ⟨g, oo + i * 5 + 2, none⟩) hg).trans z2; have u6 := (hw.cell (p := ⟨g, oo + i * 5 + 3, none⟩) hg).trans z3; have u7 := (hw.cell (p := ⟨g, oo + i * 5 + 4, none⟩) hg).trans z4; go_simp; try with_reducible rfl)
        replace hS := SG.set (i := 8) (by decide) (by decide) hS
        try simp only [Act.put, List.setIfInBounds_toArray, List.set_cons_zero, List.set_cons_succ]
        refine wpG_take0 (i := 9) (v := ?v25) rfl (by kernel_rfl) (by kernel_rfl) (by kernel_rfl) (by decide) (by decide) (fun _ _ _ h => h) hS (Or.inl ⟨by rfl, ?hy25⟩) ?rest25
        case hy25 => (intro w' hw; (try dsimp only at hw); have u1 := fun j => (hw.cell (p := ⟨w.heap.size, j, none⟩) l1).trans (c1 j); have u2 := (hw.cell (p := ⟨g0, o0 + i, none⟩) hg0).trans y; have u3 := (hw.cell (p := ⟨g, oo + i * 5, none⟩) hg).trans z0; have u4 := (hw.cell (p := ⟨g, oo + i * 5 + 1, none⟩) hg).trans z1; have u5 := (hw.cell (p := ⟨g, oo + i * 5 + 2, none⟩) hg).trans z2; have u6 := (hw.cell (p := ⟨g, oo + i * 5 + 3, none⟩) hg).trans z3; have u7 := (hw.cell (p := ⟨g, oo + i * 5 + 4, none⟩) hg).trans z4; go_simp; try with_reducible rfl)
        replace hS := SG.set (i := 9) (by decide) (by decide) hS
        try simp only [Act.put, List.setIfInBounds_toArray, List.set_cons_zero, List.set_cons_succ]
        refine wpG_take0 (i := 10) (v := ?v26) rfl (by kernel_rfl) (by kernel_rfl) (by kernel_rfl) (by decide) (by decide) (fun _ _ _ h => h) hS (Or.inl ⟨by rfl, ?hy26⟩) ?rest26
        case hy26 => (intro w' hw; (try dsimp only at hw); have u1 := fun j => (hw.cell (p := ⟨w.heap.size, j, none⟩) l1).trans (c1 j); have u2 := (hw.cell (p := ⟨g0, o0 + i, none⟩) hg0).trans y; have u3 := (hw.cell (p := ⟨g, oo + i * 5, none⟩) hg).trans z0; have u4 := (hw.cell (p := ⟨g, oo + i * 5 + 1, none⟩) hg).trans z1; have u5 := (hw.cell (p := ⟨g, oo + i * 5 + 2, none⟩) hg).trans z2; have u6 := (hw.cell (p := ⟨g, oo + i * 5 + 3, none⟩) hg).trans z3; have u7 := (hw.cell (p := ⟨g, oo + i * 5 + 4, none⟩) hg).trans z4; go_simp; try with_reducible rfl)
        replace hS := SG.set (i := 10) (by decide) (by decide) hS
        try simp only [Act.put, List.setIfInBounds_toArray, List.set_cons_zero, List.set_cons_succ]
        refine wpG_take0 (i := 11) (v := ?v27) rfl (by kernel_rfl) (by kernel_rfl) (by kernel_rfl) (by decide) (by decide) (fun _ _ _ h => h) hS (Or.inl ⟨by rfl, ?hy27⟩) ?rest27
        case hy27 => (intro w' hw; (try dsimp only at hw); have u1 := fun j => (hw.cell (p := ⟨w.heap.size, j, none⟩) l1).trans (c1 j); have u2 := (hw.cell (p := ⟨g0, o0 + i, none⟩) hg0).trans y; have u3 := (hw.cell (p := ⟨g, oo + i * 5, none⟩) hg).trans z0; have u4 := (hw.cell (p := ⟨g, oo + i * 5 + 1, none⟩) hg).trans z1; have u5 := (hw.cell (p := ⟨g, oo + i * 5 + 2, none⟩) hg).trans z2; have u6 := (hw.cell (p := ⟨g, oo + i * 5 + 3, none⟩) hg).trans z3; have u7 := (hw.cell (p := ⟨g, oo + i * 5 + 4, none⟩) hg).trans z4; go_simp; try with_reducible rfl)
        replace hS := SG.set (i := 11) (by decide) (by decide) hS
        try simp only [Act.put, List.setIfInBounds_toArray, List.set_cons_zero, List.set_cons_succ]
        refine wpG_take0 (i := 12) (v := ?v28) rfl (by kernel_rfl) (by kernel_rfl) (by kernel_rfl) (by decide) (by decide) (fun _ _ _ h => h) hS (Or.inl ⟨by rfl, ?hy28⟩) ?rest28
        case hy28 => (intro w' hw; (try dsimp only at hw); have u1 := fun j => (hw.cell (p := ⟨w.heap.size, j, none⟩) l1).trans (c1 j); have u2 := (hw.cell (p := ⟨g0, o0 + i, none⟩) hg0).trans y; have u3 := (hw.cell (p := ⟨g, oo + i * 5, none⟩) hg).trans z0; have u4 := (hw.cell (p := ⟨g, oo + i * 5 + 1, none⟩) hg).trans z1; have u5 := (hw.cell (p := ⟨g, oo + i * 5 + 2, none⟩) hg).trans z2; have u6 := (hw.cell (p := ⟨g, oo + i * 5 + 3, none⟩) hg).trans z3; have u7 := (hw.cell (p := ⟨g, oo + i * 5 + 4, none⟩) hg).trans z4; go_simp; try with_reducible rfl)
        replace hS := SG.set (i := 12) (by decide) (by decide) hS
        try simp only [Act.put, List.setIfInBounds_toArray, List.set_cons_zero, List.set_cons_succ]
        refine wpG_ready (rs := [13]) (by kernel_rfl) (by simp) ?_
        refine RG.consG rfl rfl (fun K hK => ?_) RG.nil
        go_simp
        refine CT.out.mono ?_
        rintro e x1 ⟨rfl, hx1⟩
        go_wp2_with fail
        have HG1 := Lib.hid (D1.trans (hx1.mono D1.size))
        clear hx1
        refine hK.out _ _ ⟨HG1.out, fun _ => trivial, fun _ => trivial⟩ (fun hS => ?_)
        clear hK K
        try simp only [Act.put, List.setIfInBounds_toArray, List.set_cons_zero, List.set_cons_succ]
        refine wpG_take0 (i := 14) (v := ?v29) rfl (by kernel_rfl) (by kernel_rfl) (by kernel_rfl) (by decide) (by decide) (fun _ _ _ h => h) hS (Or.inl ⟨by rfl, ?hy29⟩) ?rest29
        case hy29 => (intro w' hw; (try dsimp only at hw); have u1 := fun j => (hw.cell (p := ⟨w.heap.size, j, none⟩) l1).trans (c1 j); have u2 := (hw.cell (p := ⟨g0, o0 + i, none⟩) hg0).trans y; have u3 := (hw.cell (p := ⟨g, oo + i * 5, none⟩) hg).trans z0; have u4 := (hw.cell (p := ⟨g, oo + i * 5 + 1, none⟩) hg).trans z1; have u5 := (hw.cell (p := ⟨g, oo + i * 5 + 2, none⟩) hg).trans z2; have u6 := (hw.cell (p := ⟨g, oo + i * 5 + 3, none⟩) hg).trans z3; have u7 := (hw.cell (p := ⟨g, oo + i * 5 + 4, none⟩) hg).trans z4; go_simp; try with_reducible rfl)
        replace hS := SG.set (i := 14) (by decide) (by decide) hS
        try simp only [Act.put, List.setIfInBounds_toArray, List.set_cons_zero, List.set_cons_succ]
        refine wpG_take0 (i := 15) (v := ?v30) rfl (by kernel_rfl) (by kernel_rfl) (by kernel_rfl) (by decide) (by decide) (fun _ _ _ h => h) hS (Or.inl ⟨by rfl, ?hy30⟩) ?rest30
        case hy30 => (intro w' hw; (try dsimp only at hw); have u1 := fun j => (hw.cell (p := ⟨w.heap.size, j, none⟩) l1).trans (c1 j); have u2 := (hw.cell (p := ⟨g0, o0 + i, none⟩) hg0).trans y; have u3 := (hw.cell (p := ⟨g, oo + i * 5, none⟩) hg).trans z0; have u4 := (hw.cell (p := ⟨g, oo + i * 5 + 1, none⟩) hg).trans z1; have u5 := (hw.cell (p := ⟨g, oo + i * 5 + 2, none⟩) hg).trans z2; have u6 := (hw.cell (p := ⟨g, oo + i * 5 + 3, none⟩) hg).trans z3; have u7 := (hw.cell (p := ⟨g, oo + i * 5 + 4, none⟩) hg).trans z4; go_simp; try with_reducible rfl)
        replace hS := SG.set (i := 15) (by decide) (by decide) hS
        try simp only [Act.put, List.setIfInBounds_toArray, List.set_cons_zero, List.set_cons_succ]
        refine wpG_done (by kernel_rfl) ?_ _
        have HX2 := Lib.hid (HWr.out.trans (HG1.out.mono HWr.out.size))
        clear hS D1 c1 l1 HG1 CT b1 b2 b3
        go_wp2_with fail
        go_roundg (n - j)
        case measure => omega
        case rel => exact ⟨j, _, rfl, by rw [hj]; go_num, by omega, by omega, by omega, HX2.out, HO2.out⟩
    · have hil : ¬ (i : Int) < (n : Int) := by omega
      obtain rfl : n = i := by omega
      have HF : Hid (O ++ ⟨#[125]⟩ = X) := bytes_ext (by
        rw [app_list, HO.out, HTXX.out, List.take_of_length_le (by rw [← HN.out]; exact Nat.le_refl _), List.take_of_length_le (by rw [HTL.out, ← HM.out]; exact Nat.le_refl _)]
        simp)
      clear hi l1 RTr HO
      go_wp2_with fail
      (first | go_ret | go_ret2)
      exact ⟨congrArg (fun b => Ending.returned (Value.string b)) HF.out, HBr.out⟩
theorem rtext_any : ∀ v : Vl, v.right = true → v.rng → v.byt ≤ 100000 → v.cnt ≤ 1000001 → ∀ (w : World) (P : Nat → Prop) (An : Option Addr) (cn : Nat) (A : Option Addr) (c : Nat), VI w P v An cn A c → Calls Tryd.prog 19 #[vv v An cn A c] w fun e w' => e = .returned (.string (txS v)) ∧ Below w.heap.size w w' := by
  refine Vl.ind fun k ns ps ih hr hg hb hc w P An cn A c h => ?_
  have hx := tx_size hg hb
  have hg0 := hg
  have hb0 := hb
  rw [Vl.cnt] at hc
  rw [Vl.rng] at hg
  rw [Vl.byt] at hb
  have e1 := cntL_len ps
  have hh := VI_iff.1 h
  by_cases hk : k.kind = 3
  · have hlen : ns.length = ps.length := by
      rcases right_cases hr with ⟨h, _⟩ | ⟨h, _⟩ | ⟨h, _⟩ | ⟨_, _, _, h, _⟩ <;> omega
    rw [Vl.text, if_neg (by omega), if_neg (by omega), if_neg (by omega), if_pos hk] at hx
    simp only [List.length_append, List.length_cons, List.length_nil] at hx
    exact rtext_step k hk ns ps hlen (by omega) (by omega) (fun p hp w P An cn A c h => ih p hp (right_part hr hp) (rngL_mem hg.2 hp) (by have := byt_mem hp; omega) (by have := cnt_mem hp; omega) w P An cn A c h) w P An cn A c hh.1 hh.2
  · exact rtext_leaf k ns ps hr hg0 hb0 hk w An ns.length cn A ps.length c
end Vm
end Go.Proofs.YtbjlhdjcdinmhaaDoor
