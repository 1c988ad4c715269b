/- Contracts: a type's text, by the document. -/
import Derived.Test.YtifkjngclkklfaaGreatDoorMGy
import Derived.Test.YtifkjngclkklfaaGreatDoorMGu
import Derived.Test.YtifkjngclkklfaaGreatDoorMGi
namespace Go.Proofs.YtifkjngclkklfaaGreatDoor
open Go.RowKit Go.Op
namespace Tm
theorem ba_eq {a b : ByteArray} (h : a.data.toList = b.data.toList) : a = b := by
  cases a with | mk a => cases b with | mk b => simp at h; rw [h]
theorem ba_of {a : ByteArray} {l : List UInt8} (h : a.data.toList = l) : a = ⟨l.toArray⟩ := ba_eq (by simpa using h)
set_option maxHeartbeats 4000000 in
set_option maxRecDepth 100000 in
theorem rtext_plain (k : Int) (hk : k = 0 ∨ k = 1 ∨ k = 2) (w : World) (An : Option Addr) (cn : Nat) (A : Option Addr) (c : Nat) :
    Calls Tryz.prog 25 #[.agg #[.int .i64 k, .slice An 0 cn, .slice A 0 c]] w fun e w' => e = .returned (.string ⟨(plainB k).toArray⟩) ∧ Below w.heap.size w w' := by
  have b1 := bel1 w (.cells (tarr k An 0 cn A 0 c) 25)
  have HB := Lib.hid b1
  have HB2 : Hid (∀ o, Below w.heap.size w ((w.alloc (.cells (tarr k An 0 cn A 0 c) 25)).alloc o)) := fun o => HB.out.trans ((bel1 _ o).mono HB.out.size)
  clear b1
  rcases hk with rfl | rfl | rfl
  all_goals
    go_enter Tryz.func25, Tryz.ntmps25
    go_wp2_with fail
    (first | go_ret | go_ret2)
    exact ⟨rfl, HB2.out _⟩
set_option maxHeartbeats 16000000 in
set_option maxRecDepth 100000 in
theorem rtext_rec (ns : List ByteArray) (ps : List Ty) (hl : ps.length ≤ 1000001) (hn : ns.length = ps.length) (hL : ([123] ++ joinB (recB ns (textL ps)) ++ [125]).length ≤ lim) (IH : ∀ p ∈ ps, ∀ (w : World) (P : Nat → Prop) (An : Option Addr) (cn : Nat) (A : Option Addr) (c : Nat), TI w P p An cn A c → p.text.length ≤ lim → Calls Tryz.prog 25 #[tv p An cn A c] w fun e w' => e = .returned (.string ⟨p.text.toArray⟩) ∧ Below w.heap.size w w')
    (w : World) (P : Nat → Prop) (An : Option Addr) (cn : Nat) (A : Option Addr) (c : Nat) (hN : NV w P ns An cn) (h : TV w P ps A c) :
    Calls Tryz.prog 25 #[.agg #[.int .i64 3, .slice An ns.length cn, .slice A ps.length c]] w fun e w' => e = .returned (.string ⟨([123] ++ joinB (recB ns (textL ps)) ++ [125]).toArray⟩) ∧ Below w.heap.size w w' := by
  rw [hn]
  obtain ⟨n, hnn⟩ : ∃ n, n = ps.length := ⟨_, rfl⟩
  rw [← hnn] at hl hn ⊢
  have b1 := bel1 w (.cells (tarr 3 An n cn A n c) 25)
  have HNA := Lib.hid (hN.below b1)
  have HTA := Lib.hid (h.below b1)
  obtain ⟨w1, h1⟩ : ∃ w1, w1 = w.alloc (.cells (tarr 3 An n cn A n c) 25) := ⟨_, rfl⟩
  rw [← h1] at b1 HNA HTA
  have HB1 := Lib.hid b1
  have R1 : Hid (RowB w1 w.heap.size 25 (tarr 3 An n cn A n c)) := by rw [h1]; exact RowB.new w 25 _
  have HI := Lib.hid IH
  have HLL := Lib.hid hL
  have HN := Lib.hid hnn
  have HNS := Lib.hid hn
  have e1 := h1
  clear hN h hnn hn b1 h1 IH hL
  go_enter Tryz.func25, Tryz.ntmps25
  go_wp2_with fail
  rw [← e1]
  clear e1
  go_loopg [3, 4] (n + 1) (fun kx s3 s4 wr => ∃ (i : Nat) (S : ByteArray), s4 = .int .i64 i ∧ s3 = .string S ∧ n - i ≤ kx ∧ i ≤ n ∧ Hid (S.data.toList = [123] ++ joinB ((recB ns (textL ps)).take i)) ∧ Hid (Below w1.heap.size w1 wr))
  case atStart => exact ⟨0, ⟨#[123]⟩, rfl, rfl, by omega, by omega, by simp [Hid, joinB], Below.refl _ _⟩
  case round =>
    obtain ⟨i, S, rfl, rfl, hkx, hin, HS, HBr⟩ := hrel
    have RX := Lib.hid (R1.out.below HBr.out R1.out.lt)
    have rx := RX.out.cell
    by_cases hi : i < n
    · have hil : (i : Int) < (n : Int) := by omega
      obtain ⟨x, ex⟩ := get_lt (l := ns) (i := i) (by rw [HNS.out]; exact hi)
      obtain ⟨p, ep⟩ := get_lt (l := ps) (i := i) (by rw [← HN.out]; exact hi)
      obtain ⟨g0, o0, hA0, _, hg0, y0, hz0⟩ := (HNA.out.below HBr.out).nth ex
      obtain ⟨g, o, Bn, dn, B, d, hA1, _, hg1, hti, u0, u1, u2⟩ := (HTA.out.below HBr.out).nth ep
      have hg : (recB ns (textL ps))[i]? = some (x.data.toList ++ [58, 32] ++ p.text) := recB_get ex (by rw [textL_map, List.getElem?_map, ep]; rfl)
      have HST := Lib.hid (joinB_step hg)
      have hle := joinB_le (recB ns (textL ps)) (i + 1)
      have hlen := congrArg List.length HST.out
      simp only [List.length_append, List.length_cons, List.length_nil] at hlen
      have hLL := HLL.out
      simp only [List.length_append, List.length_cons, List.length_nil] at hLL
      have hpt : p.text.length ≤ lim := by omega
      have HTI := Lib.hid hti
      have HM := Lib.hid (List.mem_of_getElem? ep)
      obtain ⟨j, hj⟩ : ∃ j, j = i + 1 := ⟨_, rfl⟩
      rw [← hj] at HST hle
      have hlr := RX.out.lt
      have HX : Hid (x.size ≤ 140737488351232) := hz0
      subst hA0 hA1
      clear ex ep hg hti hz0
      obtain ⟨S1, hS1⟩ : ∃ S1 : ByteArray, S1 = if i = 0 then S else S ++ ⟨#[44, 32]⟩ := ⟨_, rfl⟩
      have HS1 : Hid (S1.data.toList = [123] ++ (joinB ((recB ns (textL ps)).take i) ++ (if i = 0 then [] else [44, 32]))) := by
        rw [hS1]
        by_cases h0 : i = 0
        · simp only [h0, if_true]; unfold Hid; have := HS.out; rw [h0] at this; rw [this]; simp
        · simp only [h0, if_false]; unfold Hid; rw [app_list, HS.out, List.append_assoc]
      have D0 : Hid (Below wr.heap.size wr wr.drew) := Below.drew (Below.refl _ _)
      have CT := Lib.hid (HI.out p HM.out wr.drew _ Bn dn B d (HTI.out.below D0.out) hpt)
      obtain ⟨tx, htx⟩ : ∃ tx : ByteArray, tx = ⟨p.text.toArray⟩ := ⟨_, rfl⟩
      rw [← htx] at CT
      have HFS : Hid ((S1 ++ x ++ ⟨#[58, 32]⟩ ++ tx).data.toList = [123] ++ joinB ((recB ns (textL ps)).take j)) := by
        unfold Hid
        rw [HST.out, app_list, app_list, app_list, HS1.out, htx]
        simp
      have hFz := congrArg List.length HFS.out
      simp only [List.length_append, List.length_cons, List.length_nil, app_list, Array.length_toList] at hFz
      have hsz : S1.data.size + x.data.size + 2 + tx.data.size ≤ lim := by (try simp only [List.size_toArray, List.length_cons, List.length_nil] at hFz); omega
      unfold lim at hsz
      have q1 : ¬ 9223372036854775807 < S1.size + x.size := by have e1 : S1.size = S1.data.size := rfl; have e2 : x.size = x.data.size := rfl; omega
      have q2 : ¬ 9223372036854775807 < S1.size + x.size + 2 := by have e1 : S1.size = S1.data.size := rfl; have e2 : x.size = x.data.size := rfl; omega
      have q3 : ¬ 9223372036854775807 < S1.size + x.size + 2 + tx.size := by have e1 : S1.size = S1.data.size := rfl; have e2 : x.size = x.data.size := rfl; have e3 : tx.size = tx.data.size := rfl; omega
      have q4 : ¬ 9223372036854775807 < S.size + 2 := by
        have hz := congrArg List.length HS.out
        simp only [List.length_append, List.length_cons, List.length_nil, Array.length_toList] at hz
        have e1 : S.size = S.data.size := rfl
        have := joinB_le (recB ns (textL ps)) i
        unfold lim at hLL
        omega
      clear hFz hsz hlen hle hLL hpt
      obtain ⟨kp, np, pp⟩ := p
      simp only [tv, kind_mk, names_mk, parts_mk] at CT u0 u1 u2
      clear HI HS HS1 HST HTI HM htx
      by_cases h0 : i = 0
      · have hgt : ¬ (i : Int) > 0 := by omega
        simp only [h0, if_true] at hS1
        subst hS1
        have h0' := Lib.hid h0
        clear h0
        go_wp2_with fail
        go_upto_region 10 with fail
        refine wp_region_G (S := SG (fun w' => Below wr.heap.size wr w') 99 (fun _ => True) 99 (fun _ => True)) (by kernel_rfl) ⟨D0.out, fun _ => trivial, fun _ => trivial⟩ (fun hS => ?_)
        refine wpG_take0 (i := 0) (v := ?v1) rfl (by kernel_rfl) (by kernel_rfl) (by kernel_rfl) (by decide) (by decide) (fun _ _ _ h => h) hS (Or.inl ⟨by rfl, ?hy1⟩) ?rest1
        case hy1 => (intro w' hw; go_simp; try with_reducible rfl)
        replace hS := SG.set (i := 0) (by decide) (by decide) hS
        try simp only [Act.put, List.setIfInBounds_toArray, List.set_cons_zero, List.set_cons_succ]
        refine wpG_take0 (i := 1) (v := ?v2) rfl (by kernel_rfl) (by kernel_rfl) (by kernel_rfl) (by decide) (by decide) (fun _ _ _ h => h) hS (Or.inl ⟨by rfl, ?hy2⟩) ?rest2
        case hy2 => (intro w' hw; go_simp; try with_reducible rfl)
        replace hS := SG.set (i := 1) (by decide) (by decide) hS
        try simp only [Act.put, List.setIfInBounds_toArray, List.set_cons_zero, List.set_cons_succ]
        refine wpG_take0 (i := 2) (v := ?v3) rfl (by kernel_rfl) (by kernel_rfl) (by kernel_rfl) (by decide) (by decide) (fun _ _ _ h => h) hS (Or.inl ⟨by rfl, ?hy3⟩) ?rest3
        case hy3 => (intro w' hw; have u := fun j => (hw.cell (p := ⟨w.heap.size, j, none⟩) hlr).trans (rx j); go_simp; try with_reducible rfl)
        replace hS := SG.set (i := 2) (by decide) (by decide) hS
        try simp only [Act.put, List.setIfInBounds_toArray, List.set_cons_zero, List.set_cons_succ]
        refine wpG_take0 (i := 3) (v := ?v4) rfl (by kernel_rfl) (by kernel_rfl) (by kernel_rfl) (by decide) (by decide) (fun _ _ _ h => h) hS (Or.inl ⟨by rfl, ?hy4⟩) ?rest4
        case hy4 => (intro w' hw; go_simp; try with_reducible rfl)
        replace hS := SG.set (i := 3) (by decide) (by decide) hS
        try simp only [Act.put, List.setIfInBounds_toArray, List.set_cons_zero, List.set_cons_succ]
        refine wpG_take0 (i := 4) (v := ?v5) rfl (by kernel_rfl) (by kernel_rfl) (by kernel_rfl) (by decide) (by decide) (fun _ _ _ h => h) hS (Or.inl ⟨by rfl, ?hy5⟩) ?rest5
        case hy5 => (intro w' hw; go_simp; try with_reducible rfl)
        replace hS := SG.set (i := 4) (by decide) (by decide) hS
        try simp only [Act.put, List.setIfInBounds_toArray, List.set_cons_zero, List.set_cons_succ]
        refine wpG_take0 (i := 5) (v := ?v6) rfl (by kernel_rfl) (by kernel_rfl) (by kernel_rfl) (by decide) (by decide) (fun _ _ _ h => h) hS (Or.inl ⟨by rfl, ?hy6⟩) ?rest6
        case hy6 => (intro w' hw; have u := (hw.cell (p := ⟨g0, o0 + i, none⟩) hg0).trans y0; go_simp; try with_reducible rfl)
        replace hS := SG.set (i := 5) (by decide) (by decide) hS
        try simp only [Act.put, List.setIfInBounds_toArray, List.set_cons_zero, List.set_cons_succ]
        refine wpG_take0 (i := 6) (v := ?v7) rfl (by kernel_rfl) (by kernel_rfl) (by kernel_rfl) (by decide) (by decide) (fun _ _ _ h => h) hS (Or.inl ⟨by rfl, ?hy7⟩) ?rest7
        case hy7 => (intro w' hw; go_simp; try with_reducible rfl)
        replace hS := SG.set (i := 6) (by decide) (by decide) hS
        try simp only [Act.put, List.setIfInBounds_toArray, List.set_cons_zero, List.set_cons_succ]
        refine wpG_take0 (i := 7) (v := ?v8) rfl (by kernel_rfl) (by kernel_rfl) (by kernel_rfl) (by decide) (by decide) (fun _ _ _ h => h) hS (Or.inl ⟨by rfl, ?hy8⟩) ?rest8
        case hy8 => (intro w' hw; go_simp; try with_reducible rfl)
        replace hS := SG.set (i := 7) (by decide) (by decide) hS
        try simp only [Act.put, List.setIfInBounds_toArray, List.set_cons_zero, List.set_cons_succ]
        refine wpG_take0 (i := 8) (v := ?v9) rfl (by kernel_rfl) (by kernel_rfl) (by kernel_rfl) (by decide) (by decide) (fun _ _ _ h => h) hS (Or.inl ⟨by rfl, ?hy9⟩) ?rest9
        case hy9 => (intro w' hw; go_simp; try with_reducible rfl)
        replace hS := SG.set (i := 8) (by decide) (by decide) hS
        try simp only [Act.put, List.setIfInBounds_toArray, List.set_cons_zero, List.set_cons_succ]
        refine wpG_take0 (i := 9) (v := ?v10) rfl (by kernel_rfl) (by kernel_rfl) (by kernel_rfl) (by decide) (by decide) (fun _ _ _ h => h) hS (Or.inl ⟨by rfl, ?hy10⟩) ?rest10
        case hy10 => (intro w' hw; have u := fun j => (hw.cell (p := ⟨w.heap.size, j, none⟩) hlr).trans (rx j); go_simp; try with_reducible rfl)
        replace hS := SG.set (i := 9) (by decide) (by decide) hS
        try simp only [Act.put, List.setIfInBounds_toArray, List.set_cons_zero, List.set_cons_succ]
        refine wpG_take0 (i := 10) (v := ?v11) rfl (by kernel_rfl) (by kernel_rfl) (by kernel_rfl) (by decide) (by decide) (fun _ _ _ h => h) hS (Or.inl ⟨by rfl, ?hy11⟩) ?rest11
        case hy11 => (intro w' hw; go_simp; try with_reducible rfl)
        replace hS := SG.set (i := 10) (by decide) (by decide) hS
        try simp only [Act.put, List.setIfInBounds_toArray, List.set_cons_zero, List.set_cons_succ]
        refine wpG_take0 (i := 11) (v := ?v12) rfl (by kernel_rfl) (by kernel_rfl) (by kernel_rfl) (by decide) (by decide) (fun _ _ _ h => h) hS (Or.inl ⟨by rfl, ?hy12⟩) ?rest12
        case hy12 => (intro w' hw; go_simp; try with_reducible rfl)
        replace hS := SG.set (i := 11) (by decide) (by decide) hS
        try simp only [Act.put, List.setIfInBounds_toArray, List.set_cons_zero, List.set_cons_succ]
        refine wpG_take0 (i := 12) (v := ?v13) rfl (by kernel_rfl) (by kernel_rfl) (by kernel_rfl) (by decide) (by decide) (fun _ _ _ h => h) hS (Or.inl ⟨by rfl, ?hy13⟩) ?rest13
        case hy13 => (intro w' hw; have v0 := (hw.cell (p := ⟨g, o + i * 3, none⟩) hg1).trans u0; have v1 := (hw.cell (p := ⟨g, o + i * 3 + 1, none⟩) hg1).trans u1; have v2 := (hw.cell (p := ⟨g, o + i * 3 + 2, none⟩) hg1).trans u2; go_simp; try with_reducible rfl)
        replace hS := SG.set (i := 12) (by decide) (by decide) hS
        try simp only [Act.put, List.setIfInBounds_toArray, List.set_cons_zero, List.set_cons_succ]
        refine wpG_ready (rs := [13]) (by kernel_rfl) (by simp) ?_
        refine RG.cons rfl rfl (fun K hK => ?_) RG.nil
        go_simp
        refine CT.out.mono ?_
        rintro e x1 ⟨rfl, hx1⟩
        go_wp2_with fail
        have HG1 := Lib.hid (D0.out.trans (hx1.mono D0.out.size))
        clear hx1
        refine hK.out _ _ ⟨HG1.out, fun _ => trivial, fun _ => trivial⟩ (fun hS => ?_)
        clear hK K
        try simp only [Act.put, List.setIfInBounds_toArray, List.set_cons_zero, List.set_cons_succ]
        refine wpG_take0 (i := 14) (v := ?v14) rfl (by kernel_rfl) (by kernel_rfl) (by kernel_rfl) (by decide) (by decide) (fun _ _ _ h => h) hS (Or.inl ⟨by rfl, ?hy14⟩) ?rest14
        case hy14 => (intro w' hw; go_simp; try with_reducible rfl)
        replace hS := SG.set (i := 14) (by decide) (by decide) hS
        try simp only [Act.put, List.setIfInBounds_toArray, List.set_cons_zero, List.set_cons_succ]
        refine wpG_take0 (i := 15) (v := ?v15) rfl (by kernel_rfl) (by kernel_rfl) (by kernel_rfl) (by decide) (by decide) (fun _ _ _ h => h) hS (Or.inl ⟨by rfl, ?hy15⟩) ?rest15
        case hy15 => (intro w' hw; go_simp; try with_reducible rfl)
        replace hS := SG.set (i := 15) (by decide) (by decide) hS
        try simp only [Act.put, List.setIfInBounds_toArray, List.set_cons_zero, List.set_cons_succ]
        refine wpG_done (by kernel_rfl) ?_ _
        have HBF := Lib.hid (HBr.out.trans (HG1.out.mono HBr.out.size))
        clear hS CT HG1 rx y0 u0 u1 u2 RX hlr D0 HX HBr
        go_wp2_with fail
        go_roundg (n - j)
        case measure => omega
        case rel => exact ⟨j, _, by rw [hj]; go_num, rfl, by omega, by omega, HFS.out, HBF.out⟩
      · have hgt : (i : Int) > 0 := by omega
        simp only [h0, if_false] at hS1
        have hS2 := Lib.hid hS1
        clear h0
        go_wp2_with fail
        rw [← hS1]
        clear hS1
        go_upto_region 10 with fail
        refine wp_region_G (S := SG (fun w' => Below wr.heap.size wr w') 99 (fun _ => True) 99 (fun _ => True)) (by kernel_rfl) ⟨D0.out, fun _ => trivial, fun _ => trivial⟩ (fun hS => ?_)
        refine wpG_take0 (i := 0) (v := ?v16) rfl (by kernel_rfl) (by kernel_rfl) (by kernel_rfl) (by decide) (by decide) (fun _ _ _ h => h) hS (Or.inl ⟨by rfl, ?hy16⟩) ?rest16
        case hy16 => (intro w' hw; go_simp; try with_reducible rfl)
        replace hS := SG.set (i := 0) (by decide) (by decide) hS
        try simp only [Act.put, List.setIfInBounds_toArray, List.set_cons_zero, List.set_cons_succ]
        refine wpG_take0 (i := 1) (v := ?v17) rfl (by kernel_rfl) (by kernel_rfl) (by kernel_rfl) (by decide) (by decide) (fun _ _ _ h => h) hS (Or.inl ⟨by rfl, ?hy17⟩) ?rest17
        case hy17 => (intro w' hw; go_simp; try with_reducible rfl)
        replace hS := SG.set (i := 1) (by decide) (by decide) hS
        try simp only [Act.put, List.setIfInBounds_toArray, List.set_cons_zero, List.set_cons_succ]
        refine wpG_take0 (i := 2) (v := ?v18) rfl (by kernel_rfl) (by kernel_rfl) (by kernel_rfl) (by decide) (by decide) (fun _ _ _ h => h) hS (Or.inl ⟨by rfl, ?hy18⟩) ?rest18
        case hy18 => (intro w' hw; have u := fun j => (hw.cell (p := ⟨w.heap.size, j, none⟩) hlr).trans (rx j); go_simp; try with_reducible rfl)
        replace hS := SG.set (i := 2) (by decide) (by decide) hS
        try simp only [Act.put, List.setIfInBounds_toArray, List.set_cons_zero, List.set_cons_succ]
        refine wpG_take0 (i := 3) (v := ?v19) rfl (by kernel_rfl) (by kernel_rfl) (by kernel_rfl) (by decide) (by decide) (fun _ _ _ h => h) hS (Or.inl ⟨by rfl, ?hy19⟩) ?rest19
        case hy19 => (intro w' hw; go_simp; try with_reducible rfl)
        replace hS := SG.set (i := 3) (by decide) (by decide) hS
        try simp only [Act.put, List.setIfInBounds_toArray, List.set_cons_zero, List.set_cons_succ]
        refine wpG_take0 (i := 4) (v := ?v20) rfl (by kernel_rfl) (by kernel_rfl) (by kernel_rfl) (by decide) (by decide) (fun _ _ _ h => h) hS (Or.inl ⟨by rfl, ?hy20⟩) ?rest20
        case hy20 => (intro w' hw; go_simp; try with_reducible rfl)
        replace hS := SG.set (i := 4) (by decide) (by decide) hS
        try simp only [Act.put, List.setIfInBounds_toArray, List.set_cons_zero, List.set_cons_succ]
        refine wpG_take0 (i := 5) (v := ?v21) rfl (by kernel_rfl) (by kernel_rfl) (by kernel_rfl) (by decide) (by decide) (fun _ _ _ h => h) hS (Or.inl ⟨by rfl, ?hy21⟩) ?rest21
        case hy21 => (intro w' hw; have u := (hw.cell (p := ⟨g0, o0 + i, none⟩) hg0).trans y0; go_simp; try with_reducible rfl)
        replace hS := SG.set (i := 5) (by decide) (by decide) hS
        try simp only [Act.put, List.setIfInBounds_toArray, List.set_cons_zero, List.set_cons_succ]
        refine wpG_take0 (i := 6) (v := ?v22) rfl (by kernel_rfl) (by kernel_rfl) (by kernel_rfl) (by decide) (by decide) (fun _ _ _ h => h) hS (Or.inl ⟨by rfl, ?hy22⟩) ?rest22
        case hy22 => (intro w' hw; go_simp; try with_reducible rfl)
        replace hS := SG.set (i := 6) (by decide) (by decide) hS
        try simp only [Act.put, List.setIfInBounds_toArray, List.set_cons_zero, List.set_cons_succ]
        refine wpG_take0 (i := 7) (v := ?v23) rfl (by kernel_rfl) (by kernel_rfl) (by kernel_rfl) (by decide) (by decide) (fun _ _ _ h => h) hS (Or.inl ⟨by rfl, ?hy23⟩) ?rest23
        case hy23 => (intro w' hw; go_simp; try with_reducible rfl)
        replace hS := SG.set (i := 7) (by decide) (by decide) hS
        try simp only [Act.put, List.setIfInBounds_toArray, List.set_cons_zero, List.set_cons_succ]
        refine wpG_take0 (i := 8) (v := ?v24) rfl (by kernel_rfl) (by kernel_rfl) (by kernel_rfl) (by decide) (by decide) (fun _ _ _ h => h) hS (Or.inl ⟨by rfl, ?hy24⟩) ?rest24
        case hy24 => (intro w' hw; go_simp; try with_reducible rfl)
        replace hS := SG.set (i := 8) (by decide) (by decide) hS
        try simp only [Act.put, List.setIfInBounds_toArray, List.set_cons_zero, List.set_cons_succ]
        refine wpG_take0 (i := 9) (v := ?v25) rfl (by kernel_rfl) (by kernel_rfl) (by kernel_rfl) (by decide) (by decide) (fun _ _ _ h => h) hS (Or.inl ⟨by rfl, ?hy25⟩) ?rest25
        case hy25 => (intro w' hw; have u := fun j => (hw.cell (p := ⟨w.heap.size, j, none⟩) hlr).trans (rx j); go_simp; try with_reducible rfl)
        replace hS := SG.set (i := 9) (by decide) (by decide) hS
        try simp only [Act.put, List.setIfInBounds_toArray, List.set_cons_zero, List.set_cons_succ]
        refine wpG_take0 (i := 10) (v := ?v26) rfl (by kernel_rfl) (by kernel_rfl) (by kernel_rfl) (by decide) (by decide) (fun _ _ _ h => h) hS (Or.inl ⟨by rfl, ?hy26⟩) ?rest26
        case hy26 => (intro w' hw; go_simp; try with_reducible rfl)
        replace hS := SG.set (i := 10) (by decide) (by decide) hS
        try simp only [Act.put, List.setIfInBounds_toArray, List.set_cons_zero, List.set_cons_succ]
        refine wpG_take0 (i := 11) (v := ?v27) rfl (by kernel_rfl) (by kernel_rfl) (by kernel_rfl) (by decide) (by decide) (fun _ _ _ h => h) hS (Or.inl ⟨by rfl, ?hy27⟩) ?rest27
        case hy27 => (intro w' hw; go_simp; try with_reducible rfl)
        replace hS := SG.set (i := 11) (by decide) (by decide) hS
        try simp only [Act.put, List.setIfInBounds_toArray, List.set_cons_zero, List.set_cons_succ]
        refine wpG_take0 (i := 12) (v := ?v28) rfl (by kernel_rfl) (by kernel_rfl) (by kernel_rfl) (by decide) (by decide) (fun _ _ _ h => h) hS (Or.inl ⟨by rfl, ?hy28⟩) ?rest28
        case hy28 => (intro w' hw; have v0 := (hw.cell (p := ⟨g, o + i * 3, none⟩) hg1).trans u0; have v1 := (hw.cell (p := ⟨g, o + i * 3 + 1, none⟩) hg1).trans u1; have v2 := (hw.cell (p := ⟨g, o + i * 3 + 2, none⟩) hg1).trans u2; go_simp; try with_reducible rfl)
        replace hS := SG.set (i := 12) (by decide) (by decide) hS
        try simp only [Act.put, List.setIfInBounds_toArray, List.set_cons_zero, List.set_cons_succ]
        refine wpG_ready (rs := [13]) (by kernel_rfl) (by simp) ?_
        refine RG.cons rfl rfl (fun K hK => ?_) RG.nil
        go_simp
        refine CT.out.mono ?_
        rintro e x1 ⟨rfl, hx1⟩
        go_wp2_with fail
        have HG1 := Lib.hid (D0.out.trans (hx1.mono D0.out.size))
        clear hx1
        refine hK.out _ _ ⟨HG1.out, fun _ => trivial, fun _ => trivial⟩ (fun hS => ?_)
        clear hK K
        try simp only [Act.put, List.setIfInBounds_toArray, List.set_cons_zero, List.set_cons_succ]
        refine wpG_take0 (i := 14) (v := ?v29) rfl (by kernel_rfl) (by kernel_rfl) (by kernel_rfl) (by decide) (by decide) (fun _ _ _ h => h) hS (Or.inl ⟨by rfl, ?hy29⟩) ?rest29
        case hy29 => (intro w' hw; go_simp; try with_reducible rfl)
        replace hS := SG.set (i := 14) (by decide) (by decide) hS
        try simp only [Act.put, List.setIfInBounds_toArray, List.set_cons_zero, List.set_cons_succ]
        refine wpG_take0 (i := 15) (v := ?v30) rfl (by kernel_rfl) (by kernel_rfl) (by kernel_rfl) (by decide) (by decide) (fun _ _ _ h => h) hS (Or.inl ⟨by rfl, ?hy30⟩) ?rest30
        case hy30 => (intro w' hw; go_simp; try with_reducible rfl)
        replace hS := SG.set (i := 15) (by decide) (by decide) hS
        try simp only [Act.put, List.setIfInBounds_toArray, List.set_cons_zero, List.set_cons_succ]
        refine wpG_done (by kernel_rfl) ?_ _
        have HBF := Lib.hid (HBr.out.trans (HG1.out.mono HBr.out.size))
        clear hS CT HG1 rx y0 u0 u1 u2 RX hlr D0 HX HBr
        go_wp2_with fail
        go_roundg (n - j)
        case measure => omega
        case rel => exact ⟨j, _, by rw [hj]; go_num, rfl, by omega, by omega, HFS.out, HBF.out⟩
    · have hil : ¬ (i : Int) < (n : Int) := by omega
      obtain rfl : i = n := by omega
      have hS := HS.out
      have q5 : ¬ 9223372036854775807 < S.size + 1 := by
        have hz := congrArg List.length HS.out
        simp only [List.length_append, List.length_cons, List.length_nil, Array.length_toList] at hz
        have e1 : S.size = S.data.size := rfl
        have := joinB_le (recB ns (textL ps)) i
        have hLL := HLL.out
        simp only [List.length_append, List.length_cons, List.length_nil] at hLL
        unfold lim at hLL
        omega
      rw [List.take_of_length_le (by rw [recB_len (by rw [textL_map, List.length_map, HNS.out, HN.out]), textL_map, List.length_map, ← HN.out]; exact Nat.le_refl _)] at hS
      have HF : Hid (S ++ ⟨#[125]⟩ = ⟨([123] ++ joinB (recB ns (textL ps)) ++ [125]).toArray⟩) := ba_of (by rw [app_list, hS])
      have HBF := Lib.hid (HB1.out.trans (HBr.out.mono HB1.out.size))
      clear hS HS HNA HTA HI
      go_wp2_with fail
      (first | go_ret | go_ret2)
      exact ⟨congrArg (fun b => Ending.returned (.string b)) HF.out, HBF.out⟩
set_option maxHeartbeats 16000000 in
set_option maxRecDepth 100000 in
theorem rtext_fn (ps : List Ty) (hl : ps.length ≤ 1000001) (hp0 : 0 < ps.length) (hL : ([102, 110, 40] ++ joinB ((textL ps).take (ps.length - 1)) ++ [41, 58, 32] ++ (lastT ps).text).length ≤ lim) (IH : ∀ p ∈ ps, ∀ (w : World) (P : Nat → Prop) (An : Option Addr) (cn : Nat) (A : Option Addr) (c : Nat), TI w P p An cn A c → p.text.length ≤ lim → Calls Tryz.prog 25 #[tv p An cn A c] w fun e w' => e = .returned (.string ⟨p.text.toArray⟩) ∧ Below w.heap.size w w')
    (w : World) (P : Nat → Prop) (An : Option Addr) (cn : Nat) (A : Option Addr) (c : Nat) (h : TV w P ps A c) :
    Calls Tryz.prog 25 #[.agg #[.int .i64 4, .slice An 0 cn, .slice A ps.length c]] w fun e w' => e = .returned (.string ⟨([102, 110, 40] ++ joinB ((textL ps).take (ps.length - 1)) ++ [41, 58, 32] ++ (lastT ps).text).toArray⟩) ∧ Below w.heap.size w w' := by
  obtain ⟨n, hnn⟩ : ∃ n, n + 1 = ps.length := ⟨ps.length - 1, by omega⟩
  have hlast : (ps : List Ty)[n]? = some (lastT ps) := by rw [lastT_get hp0, List.getElem?_eq_some_iff]; exact ⟨by omega, by congr 1; omega⟩
  rw [← hnn] at hl hL ⊢
  have hnt : n + 1 - 1 = n := by omega
  rw [hnt] at hL ⊢
  have b1 := bel1 w (.cells (tarr 4 An 0 cn A (n + 1) c) 25)
  have HTA := Lib.hid (h.below b1)
  obtain ⟨w1, h1⟩ : ∃ w1, w1 = w.alloc (.cells (tarr 4 An 0 cn A (n + 1) c) 25) := ⟨_, rfl⟩
  rw [← h1] at b1 HTA
  have HB1 := Lib.hid b1
  have R1 : Hid (RowB w1 w.heap.size 25 (tarr 4 An 0 cn A (n + 1) c)) := by rw [h1]; exact RowB.new w 25 _
  have HI := Lib.hid IH
  have HLL := Lib.hid hL
  have HN := Lib.hid hnn
  have HLA := Lib.hid hlast
  have e1 := h1
  have hw2 : IntKind.i64.wrap ((n : Int) + 1 - 1) = (n : Int) := by rw [IntKind.wrap_i64]; omega
  have hnp : Hid (n < ps.length) := by unfold Hid; omega
  clear h hnn b1 h1 IH hlast hp0 hnt hL
  go_enter Tryz.func25, Tryz.ntmps25
  go_wp2_with fail
  rw [← e1]
  clear e1
  go_loopg [5, 7] (n + 1) (fun kx s5 s7 wr => ∃ (i : Nat) (S : ByteArray), s7 = .int .i64 i ∧ s5 = .string S ∧ n - i ≤ kx ∧ i ≤ n ∧ Hid (S.data.toList = [102, 110, 40] ++ joinB ((textL ps).take i)) ∧ Hid (Below w1.heap.size w1 wr))
  case atStart => exact ⟨0, ⟨#[102, 110, 40]⟩, rfl, rfl, by omega, by omega, by simp [Hid, joinB], Below.refl _ _⟩
  case round =>
    obtain ⟨i, S, rfl, rfl, hkx, hin, HS, HBr⟩ := hrel
    have RX := Lib.hid (R1.out.below HBr.out R1.out.lt)
    have rx := RX.out.cell
    by_cases hi : i < n
    · have hil : (i : Int) < (n : Int) := by omega
      have hil2 : (i : Int) < (n : Int) + 1 := by omega
      obtain ⟨p, ep⟩ := get_lt (l := ps) (i := i) (by have := hnp.out; omega)
      obtain ⟨g, o, Bn, dn, B, d, hA1, _, hg1, hti, u0, u1, u2⟩ := (HTA.out.below HBr.out).nth ep
      have hg : (textL ps)[i]? = some p.text := by rw [textL_map, List.getElem?_map, ep]; rfl
      have HST := Lib.hid (joinB_step hg)
      have hle := joinB_le ((textL ps).take n) (i + 1)
      rw [List.take_take, Nat.min_eq_left (by omega)] at hle
      have hlen := congrArg List.length HST.out
      simp only [List.length_append] at hlen
      have hLL := HLL.out
      simp only [List.length_append, List.length_cons, List.length_nil] at hLL
      have hpt : p.text.length ≤ lim := by omega
      have HTI := Lib.hid hti
      have HM := Lib.hid (List.mem_of_getElem? ep)
      obtain ⟨j, hj⟩ : ∃ j, j = i + 1 := ⟨_, rfl⟩
      rw [← hj] at HST hle
      have hlr := RX.out.lt
      subst hA1
      clear ep hg hti
      obtain ⟨S1, hS1⟩ : ∃ S1 : ByteArray, S1 = if i = 0 then S else S ++ ⟨#[44, 32]⟩ := ⟨_, rfl⟩
      have HS1 : Hid (S1.data.toList = [102, 110, 40] ++ (joinB ((textL ps).take i) ++ (if i = 0 then [] else [44, 32]))) := by
        rw [hS1]
        by_cases h0 : i = 0
        · simp only [h0, if_true]; unfold Hid; have := HS.out; rw [h0] at this; rw [this]; simp
        · simp only [h0, if_false]; unfold Hid; rw [app_list, HS.out, List.append_assoc]
      have CT := Lib.hid (HI.out p HM.out wr _ Bn dn B d HTI.out hpt)
      obtain ⟨tx, htx⟩ : ∃ tx : ByteArray, tx = ⟨p.text.toArray⟩ := ⟨_, rfl⟩
      rw [← htx] at CT
      have HFS : Hid ((S1 ++ tx).data.toList = [102, 110, 40] ++ joinB ((textL ps).take j)) := by
        unfold Hid
        rw [HST.out, app_list, HS1.out, htx]
        simp
      have hFz := congrArg List.length HFS.out
      simp only [List.length_append, List.length_cons, List.length_nil, app_list, Array.length_toList] at hFz
      have hsz : S1.data.size + tx.data.size ≤ lim := by omega
      unfold lim at hsz
      have q3 : ¬ 9223372036854775807 < S1.size + tx.size := by have e1 : S1.size = S1.data.size := rfl; have e3 : tx.size = tx.data.size := rfl; omega
      have q4 : ¬ 9223372036854775807 < S.size + 2 := by
        have hz := congrArg List.length HS.out
        simp only [List.length_append, List.length_cons, List.length_nil, Array.length_toList] at hz
        have e1 : S.size = S.data.size := rfl
        have h2 := joinB_le ((textL ps).take n) i
        rw [List.take_take, Nat.min_eq_left (by omega)] at h2
        unfold lim at hLL
        omega
      clear hFz hsz hlen hle hLL hpt
      obtain ⟨kp, np, pp⟩ := p
      simp only [tv, kind_mk, names_mk, parts_mk] at CT u0 u1 u2
      clear HI HS HS1 HST HTI HM htx
      by_cases h0 : i = 0
      · have hgt : ¬ (i : Int) > 0 := by omega
        simp only [h0, if_true] at hS1
        subst hS1
        have h0' := Lib.hid h0
        clear h0
        go_wp2_with fail
        refine CT.out.mono ?_
        rintro e x1 ⟨rfl, hx1⟩
        have HBF := Lib.hid (HBr.out.trans (hx1.mono HBr.out.size))
        clear CT hx1 rx u0 u1 u2 RX hlr HBr
        go_wp2_with fail
        go_roundg (n - j)
        case measure => omega
        case rel => exact ⟨j, _, by rw [hj]; go_num, rfl, by omega, by omega, HFS.out, HBF.out⟩
      · have hgt : (i : Int) > 0 := by omega
        simp only [h0, if_false] at hS1
        have hS2 := Lib.hid hS1
        clear h0
        go_wp2_with fail
        rw [← hS1]
        clear hS1
        refine CT.out.mono ?_
        rintro e x1 ⟨rfl, hx1⟩
        have HBF := Lib.hid (HBr.out.trans (hx1.mono HBr.out.size))
        clear CT hx1 rx u0 u1 u2 RX hlr HBr
        go_wp2_with fail
        go_roundg (n - j)
        case measure => omega
        case rel => exact ⟨j, _, by rw [hj]; go_num, rfl, by omega, by omega, HFS.out, HBF.out⟩
    · have hil : ¬ (i : Int) < (n : Int) := by omega
      obtain rfl : i = n := by omega
      obtain ⟨g, o, Bn, dn, B, d, hA1, _, hg1, hti, u0, u1, u2⟩ := (HTA.out.below HBr.out).nth HLA.out
      have hLL := HLL.out
      simp only [List.length_append, List.length_cons, List.length_nil] at hLL
      have CT := Lib.hid (HI.out _ (List.mem_of_getElem? HLA.out) wr _ Bn dn B d hti (by omega))
      obtain ⟨tx, htx⟩ : ∃ tx : ByteArray, tx = ⟨(lastT ps).text.toArray⟩ := ⟨_, rfl⟩
      rw [← htx] at CT
      have HF : Hid (S ++ ⟨#[41, 58, 32]⟩ ++ tx = ⟨([102, 110, 40] ++ joinB ((textL ps).take i) ++ [41, 58, 32] ++ (lastT ps).text).toArray⟩) := ba_of (by rw [app_list, app_list, HS.out, htx])
      have hin1 : (i : Int) < (i : Int) + 1 := by omega
      have hz := congrArg List.length HS.out
      simp only [List.length_append, List.length_cons, List.length_nil, Array.length_toList] at hz
      have ht := congrArg (fun b => b.data.size) htx
      simp only [List.size_toArray] at ht
      unfold lim at hLL
      have q1 : ¬ 9223372036854775807 < S.size + 3 := by have e1 : S.size = S.data.size := rfl; omega
      have q2 : ¬ 9223372036854775807 < S.size + 3 + tx.size := by have e1 : S.size = S.data.size := rfl; have e3 : tx.size = tx.data.size := rfl; omega
      clear hz ht hLL
      obtain ⟨p, hpe⟩ : ∃ p, p = lastT ps := ⟨_, rfl⟩
      rw [← hpe] at CT u0 u1 u2
      clear hpe
      obtain ⟨kp, np, pp⟩ := p
      simp only [tv, kind_mk, names_mk, parts_mk] at CT u0 u1 u2
      subst hA1
      have HB2 := Lib.hid (HB1.out.trans (HBr.out.mono HB1.out.size))
      clear HS HTA HI hti htx
      go_wp2_with fail
      refine CT.out.mono ?_
      rintro e w5 ⟨rfl, h5⟩
      have HBF := Lib.hid (HB2.out.trans (h5.mono HB2.out.size))
      clear h5 CT u0 u1 u2 rx
      go_wp2_with fail
      (first | go_ret | go_ret2)
      exact ⟨congrArg (fun b => Ending.returned (.string b)) HF.out, HBF.out⟩
theorem rtext_any : ∀ t : Ty, t.right = true → t.cnt ≤ 1000001 → ∀ (w : World) (P : Nat → Prop) (An : Option Addr) (cn : Nat) (A : Option Addr) (c : Nat), TI w P t An cn A c → t.text.length ≤ lim →
    Calls Tryz.prog 25 #[tv t An cn A c] w fun e w' => e = .returned (.string ⟨t.text.toArray⟩) ∧ Below w.heap.size w w' := by
  refine Ty.ind fun k ns ps ih hr hc w P An cn A c h hL => ?_
  have hc2 := hc
  rw [Ty.cnt] at hc
  have e1 := cntL_len ps
  have hk := TI_iff.1 h
  simp only [names_mk, parts_mk] at hk
  have IH : ∀ p ∈ ps, ∀ (w : World) (P : Nat → Prop) (An : Option Addr) (cn : Nat) (A : Option Addr) (c : Nat), TI w P p An cn A c → p.text.length ≤ lim → Calls Tryz.prog 25 #[tv p An cn A c] w fun e w' => e = .returned (.string ⟨p.text.toArray⟩) ∧ Below w.heap.size w w' := fun p hp =>
    ih p hp (right_part (t := .mk k ns ps) hr hp) (by have := cnt_mem hp; omega)
  rcases right_cases hr with ⟨h1, rfl, rfl⟩ | ⟨rfl, h2, _, _⟩ | ⟨rfl, rfl, h0⟩
  · have e : (Ty.mk k [] []).text = plainB k := by rw [Ty.text, if_neg (by omega), if_neg (by omega)]
    rw [e]
    exact rtext_plain k h1 w An cn A c
  · have e : (Ty.mk 3 ns ps).text = [123] ++ joinB (recB ns (textL ps)) ++ [125] := by rw [Ty.text, if_pos rfl]
    rw [e] at hL ⊢
    exact rtext_rec ns ps (by omega) h2 hL IH w P An cn A c hk.1 hk.2
  · have e : (Ty.mk 4 [] ps).text = [102, 110, 40] ++ joinB ((textL ps).take (ps.length - 1)) ++ [41, 58, 32] ++ (lastT ps).text := by
      rw [Ty.text, if_neg (by decide), if_pos rfl, last_textL ps h0]
    rw [e] at hL ⊢
    exact rtext_fn ps (by omega) h0 hL IH w P An cn A c hk.2
end Tm
end Go.Proofs.YtifkjngclkklfaaGreatDoor
/- Contracts: the part of a name: the document. -/
namespace Go.Proofs.YtifkjngclkklfaaGreatDoor
open Go.RowKit Go.Op
namespace Tm
theorem not_take {ns : List ByteArray} {i : Nat} {s x : ByteArray} (h : x ∉ ns.take i) (e : ns[i]? = some s) (k : s ≠ x) : x ∉ ns.take (i + 1) := by
  rw [List.take_add_one, e]
  intro hm
  rcases List.mem_append.1 hm with hm | hm
  · exact h hm
  · simp at hm; exact k hm.symm

set_option maxHeartbeats 4000000 in
set_option maxRecDepth 100000 in
theorem rfield_any (w : World) (k : Int) (ns : List ByteArray) (ps : List Ty) (x : ByteArray) (P : Nat → Prop) (An : Option Addr) (cn : Nat) (A : Option Addr) (c : Nat) (hN : NV w P ns An cn) (h : TV w P ps A c) (hl : ns.length ≤ 1000001) (hr : (Ty.mk k ns ps).right = true) :
    Calls Tryz.prog 23 #[.agg #[.int .i64 k, .slice An ns.length cn, .slice A ps.length c], .string x] w (FieldQ P ((Ty.mk k ns ps).field x) w) := by
  have hk : (k = 3 ∧ ns.length = ps.length ∧ riseB ns = true) ∨ ns = [] := by
    rcases right_cases hr with ⟨_, rfl, _⟩ | ⟨h1, h2, _, h⟩ | ⟨_, rfl, _⟩
    · exact .inr rfl
    · exact .inl ⟨h1, h2, h⟩
    · exact .inr rfl
  obtain ⟨m, hm⟩ : ∃ m, m = ns.length := ⟨_, rfl⟩
  obtain ⟨n, hn⟩ : ∃ n, n = ps.length := ⟨_, rfl⟩
  have hm1 : m ≤ 1000001 := by omega
  rw [← hm, ← hn]
  have b1 : Below w.heap.size w (w.alloc (.cells (tarr k An m cn A n c) 25)) := bel1 w _
  have b2 : Below (w.alloc (.cells (tarr k An m cn A n c) 25)).heap.size (w.alloc (.cells (tarr k An m cn A n c) 25)) _ := bel1 _ (.cells tzc 25)
  have HB0 := Lib.hid (b1.trans (b2.mono b1.size))
  have R1 := Lib.hid ((RowB.new w 25 (tarr k An m cn A n c)).alloc (.cells tzc 25))
  have R2 : Hid (RowB ((w.alloc (.cells (tarr k An m cn A n c) 25)).alloc (.cells tzc 25)) (w.heap.size + 1) 25 tzc) := by
    have := RowB.new (w.alloc (.cells (tarr k An m cn A n c) 25)) 25 tzc
    unfold Hid
    simpa using this
  have HK := Lib.hid h
  have HNV := Lib.hid hN
  obtain ⟨o, ho⟩ : ∃ o, o = (Ty.mk k ns ps).field x := ⟨_, rfl⟩
  rw [← ho]
  have HO := Lib.hid ho
  have HM := Lib.hid hm
  have HN := Lib.hid hn
  have HKK := Lib.hid hk
  have rc := R1.out.cell
  clear b1 b2 hN h hr ho hm hn hk hl
  go_enter Tryz.func23, Tryz.ntmps23
  go_wp2_with fail
  obtain ⟨W, hW⟩ : ∃ W, W = (w.alloc (.cells (tarr k An m cn A n c) 25)).alloc (.cells tzc 25) := ⟨_, rfl⟩
  rw [← hW] at HB0 R1 R2 rc ⊢
  clear hW
  go_loopg [6] (m + 1) (fun kx s6 wr => ∃ i : Nat, s6 = .int .i64 i ∧ m - i ≤ kx ∧ i ≤ m ∧ Hid (x ∉ ns.take i) ∧ Hid (W = wr))
  case atStart => exact ⟨0, rfl, by omega, by omega, by simp [Hid], rfl⟩
  case round =>
    obtain ⟨i, rfl, hkx, hin, HQ, HW⟩ := hrel
    obtain rfl := HW.out
    have r2 := R2.out.cell
    have r2t := R2.out.thaw
    by_cases hi : i < m
    · have hil : (i : Int) < (m : Int) := by omega
      have hk3 : k = 3 ∧ m = n ∧ riseB ns = true := by
        rcases HKK.out with h | h
        · exact ⟨h.1, by rw [HM.out, HN.out]; exact h.2.1, h.2.2⟩
        · have := HM.out; rw [h] at this; simp at this; omega
      obtain ⟨rfl, rfl, hrise⟩ := hk3
      obtain ⟨s, e⟩ := get_lt (l := ns) (i := i) (by rw [← HM.out]; exact hi)
      obtain ⟨g0, o0, hA0, _, hg0, y0, _⟩ := HNV.out.nth e
      have u0 := (HB0.out.cell (p := ⟨g0, o0 + i, none⟩) hg0).trans y0
      have HE := Lib.hid e
      by_cases hs : s = x
      · have q : (s.toList == x.toList) = true := by rw [beq_ba]; exact decide_eq_true hs
        obtain ⟨t, et⟩ := get_lt (l := ps) (i := i) (by rw [← HN.out]; exact hi)
        have HF : Hid (o = some t) := by
          unfold Hid
          rw [HO.out]
          unfold Ty.field
          rw [if_pos (by rfl), names_mk, parts_mk]
          obtain ⟨h1, h2⟩ := List.getElem?_eq_some_iff.1 e
          obtain ⟨h3, h4⟩ := List.getElem?_eq_some_iff.1 et
          rw [← hs, ← h2, ← h4]
          exact lk_at (rise_nodup hrise) h1 h3
        obtain ⟨g, o', An2, cn2, A2, c2, hA, hP, hg, hti, v0, v1, v2⟩ := HK.out.nth et
        have z0 := (HB0.out.cell (p := ⟨g, o' + i * 3, none⟩) hg).trans v0
        have z1 := (HB0.out.cell (p := ⟨g, o' + i * 3 + 1, none⟩) hg).trans v1
        have z2 := (HB0.out.cell (p := ⟨g, o' + i * 3 + 2, none⟩) hg).trans v2
        have HTI := Lib.hid hti
        subst hA hA0
        obtain ⟨kt, nt, pt⟩ := t
        simp only [kind_mk, names_mk, parts_mk] at z0 z1 z2
        clear HKK HO e et hs hti v0 v1 v2 y0 hrise hP
        go_wp2_with fail
        refine bodyPost_ret (v := .tuple #[.agg #[.int .i64 kt, .slice An2 nt.length cn2, .slice A2 pt.length c2], .bool true]) ?_ rfl ⟨below_put3 HB0.out (by omega) _ _ _, by rw [HF.out]; exact ⟨An2, cn2, A2, c2, rfl, HTI.out.keep (by simp [World.setCell]; exact HB0.out.size) (fun g hg hl => ⟨(below_put3 HB0.out (by omega) _ _ _).block g hl, hg⟩)⟩⟩
        simp [results, Tryz.results23, go_sem, r2]
        try first | rfl | exact ⟨rfl, rfl⟩
      · have q : (s.toList == x.toList) = false := by rw [beq_ba]; exact decide_eq_false hs
        have HQ2 := Lib.hid (not_take HQ.out HE.out hs)
        obtain ⟨j, hj⟩ : ∃ j, j = i + 1 := ⟨_, rfl⟩
        subst hA0
        clear e hs y0 hrise HKK
        go_wp2_with fail
        go_roundg (m - j)
        case measure => omega
        case rel => exact ⟨j, by rw [hj]; go_num, by omega, by omega, by rw [hj]; exact HQ2.out, rfl⟩
    · have hil : ¬ (i : Int) < (m : Int) := by omega
      have HF : Hid (o = none) := by
        unfold Hid
        rw [HO.out]
        refine field_none ?_
        have := HQ.out
        rw [List.take_of_length_le (by rw [← HM.out]; omega)] at this
        exact this
      clear HO HKK
      go_wp2_with fail
      refine bodyPost_ret (v := .tuple #[tz, .bool false]) ?_ rfl ⟨below_put3 HB0.out (by omega) _ _ _, by rw [HF.out]⟩
      simp [results, Tryz.results23, go_sem, r2]
      try first | rfl | exact ⟨rfl, rfl⟩
end Tm
end Go.Proofs.YtifkjngclkklfaaGreatDoor
