/- The law ValueTexts, walked. -/
import Derived.Test.YtbjlhdjcdinmhaaDoorValueMakesWalk
import Derived.Test.YtbjlhdjcdinmhaaDoorRD
import Derived.Test.YtbjlhdjcdinmhaaDoorRN
namespace Go.Proofs.YtbjlhdjcdinmhaaDoor
open Go.RowKit Go.Op
namespace Vm
set_option maxHeartbeats 16000000 in
set_option maxRecDepth 100000 in
theorem texts_walk (w : World) (v : Vl) (P : Nat → Prop) (An : Option Addr) (cn : Nat) (A : Option Addr) (c : Nat) (h : VI w P v An cn A c) (u : Vl) (P' : Nat → Prop) (Bn : Option Addr) (dn : Nat) (B : Option Addr) (d : Nat) (h' : VI w P' u Bn dn B d) (hv : v.rng) (hu : u.rng) (hT : Tb w) :
    Calls Tryd.prog 6 #[vv v An cn A c, vv u Bn dn B d] w fun e w' => e = .returned (.bool true) ∧ Below w.heap.size w w' := by
  obtain ⟨vh, vn, vp⟩ := v
  obtain ⟨uh, un, up⟩ := u
  have HT := Lib.hid hT
  have HRV := Lib.hid hv
  have HRU := Lib.hid hu
  obtain ⟨W, hW⟩ : ∃ W, W = (w.alloc (.cells (varr vh An vn.length cn A vp.length c) 25)).alloc (.cells (varr uh Bn un.length dn B up.length d) 25) := ⟨_, rfl⟩
  have b1 : Below w.heap.size w W := by rw [hW]; exact (bel1 w _).trans ((bel1 (w.alloc (.cells (varr vh An vn.length cn A vp.length c) 25)) _).mono (bel1 w _).size)
  have R1 : Hid (RowB W w.heap.size 25 (varr vh An vn.length cn A vp.length c)) := by rw [hW]; exact (RowB.new w 25 _).alloc _
  have R2 : Hid (RowB W (w.heap.size + 1) 25 (varr uh Bn un.length dn B up.length d)) := by
    have := RowB.new (w.alloc (.cells (varr vh An vn.length cn A vp.length c) 25)) 25 (varr uh Bn un.length dn B up.length d)
    rw [hW]
    unfold Hid
    simpa using this
  have HV : Hid (VI W P (.mk vh vn vp) An cn A c) := h.below b1
  have HU : Hid (VI W P' (.mk uh un up) Bn dn B d) := h'.below b1
  have HB := Lib.hid b1
  obtain ⟨l1, hl1⟩ : ∃ b, b = (Vl.mk vh vn vp).light := ⟨_, rfl⟩
  have El1 := Lib.hid hl1
  have K1 : Hid (l1 = true → ((.mk vh vn vp) : Vl).cnt ≤ 1000001 ∧ ((.mk vh vn vp) : Vl).byt ≤ 100000) := fun h => by
    have := light_cnt (VI.nsz HV.out) (hl1.symm.trans h)
    exact ⟨by omega, by omega⟩
  have C0 : Hid (∀ w', Below W.heap.size W w' → Calls Tryd.prog 8 #[vv (.mk vh vn vp) An cn A c] w' fun e w2 => e = .returned (.bool l1) ∧ Below w'.heap.size w' w2) := fun w' hb => by rw [El1.out]; exact light_any w' _ _ An cn A c (HV.out.below hb)
  clear hl1
  obtain ⟨l2, hl2⟩ : ∃ b, b = (Vl.mk uh un up).light := ⟨_, rfl⟩
  have El2 := Lib.hid hl2
  have K2 : Hid (l2 = true → ((.mk uh un up) : Vl).cnt ≤ 1000001 ∧ ((.mk uh un up) : Vl).byt ≤ 100000) := fun h => by
    have := light_cnt (VI.nsz HU.out) (hl2.symm.trans h)
    exact ⟨by omega, by omega⟩
  have C1 : Hid (∀ w', Below W.heap.size W w' → Calls Tryd.prog 8 #[vv (.mk uh un up) Bn dn B d] w' fun e w2 => e = .returned (.bool l2) ∧ Below w'.heap.size w' w2) := fun w' hb => by rw [El2.out]; exact light_any w' _ _ Bn dn B d (HU.out.below hb)
  clear hl2
  obtain ⟨r1, hr1⟩ : ∃ b, b = (Vl.mk vh vn vp).right := ⟨_, rfl⟩
  have Er1 := Lib.hid hr1
  have C2 : Hid (l1 = true → ∀ w', Below W.heap.size W w' → Calls Tryd.prog 14 #[vv (.mk vh vn vp) An cn A c] w' fun e w2 => e = .returned (.bool r1) ∧ Below w'.heap.size w' w2) := fun h w' hb => by rw [Er1.out]; exact rright_any _ (K1.out h).1 w' _ An cn A c (HV.out.below hb)
  clear hr1
  obtain ⟨r2, hr2⟩ : ∃ b, b = (Vl.mk uh un up).right := ⟨_, rfl⟩
  have Er2 := Lib.hid hr2
  have C3 : Hid (l2 = true → ∀ w', Below W.heap.size W w' → Calls Tryd.prog 14 #[vv (.mk uh un up) Bn dn B d] w' fun e w2 => e = .returned (.bool r2) ∧ Below w'.heap.size w' w2) := fun h w' hb => by rw [Er2.out]; exact rright_any _ (K2.out h).1 w' _ Bn dn B d (HU.out.below hb)
  clear hr2
  obtain ⟨n1, hn1⟩ : ∃ b, b = (Vl.mk vh vn vp).nmd := ⟨_, rfl⟩
  have En1 := Lib.hid hn1
  have C4 : Hid (l1 = true → r1 = true → ∀ w', Below W.heap.size W w' → Calls Tryd.prog 31 #[vv (.mk vh vn vp) An cn A c] w' fun e w2 => e = .returned (.bool n1) ∧ Below w'.heap.size w' w2) := fun h h2 w' hb => by rw [En1.out]; exact nmd_any _ (Er1.out.symm.trans h2) (K1.out h).1 w' _ An cn A c (HV.out.below hb)
  clear hn1
  obtain ⟨n2, hn2⟩ : ∃ b, b = (Vl.mk uh un up).nmd := ⟨_, rfl⟩
  have En2 := Lib.hid hn2
  have C5 : Hid (l2 = true → r2 = true → ∀ w', Below W.heap.size W w' → Calls Tryd.prog 31 #[vv (.mk uh un up) Bn dn B d] w' fun e w2 => e = .returned (.bool n2) ∧ Below w'.heap.size w' w2) := fun h h2 w' hb => by rw [En2.out]; exact nmd_any _ (Er2.out.symm.trans h2) (K2.out h).1 w' _ Bn dn B d (HU.out.below hb)
  clear hn2
  have e1 := hW
  have HX : Hid (Below W.heap.size W W) := Below.refl _ _
  obtain ⟨w1, hw1⟩ : ∃ w1, w1 = W := ⟨_, rfl⟩
  have HX : Hid (Below W.heap.size W w1) := by rw [hw1]; exact Below.refl _ _
  simp only [varr] at e1
  rw [← hw1] at e1
  clear h h' hT hv hu b1 hW hw1
  go_enter Tryd.func6, Tryd.ntmps6
  have D0 := Lib.hid (C0.out w1 HX.out)
  have r1 := (R1.out.below HX.out R1.out.lt).cell
  have r2 := (R2.out.below HX.out R2.out.lt).cell
  simp only [vv, hd_mk, names_mk, parts_mk] at D0
  clear C0
  go_wp2_with fail
  rw [← e1]
  clear e1
  refine D0.out.mono ?_
  rintro e w2 ⟨rfl, h2⟩
  have HX2 := Lib.hid (HX.out.trans (h2.mono HX.out.size))
  have HB2 := Lib.hid (HB.out.trans (HX2.out.mono HB.out.size))
  clear h2 D0 HX r1 r2 w1
  cases l1 with
  | false =>
    clear C1 C2 C3 C4 C5
    have CA := Lib.hid (awake_any _ (HT.out.step HB2.out))
    go_wp2_with fail
    refine CA.out.mono ?_
    rintro e w9 ⟨rfl, hb9⟩
    have HB9 := Lib.hid (HB2.out.trans (hb9.mono HB2.out.size))
    clear hb9 CA
    go_wp2_with fail
    (first | go_ret | go_ret2)
    exact ⟨rfl, HB9.out⟩
  | true =>
  obtain ⟨w1, hw1⟩ : ∃ w1, w1 = w2 := ⟨_, rfl⟩
  rw [← hw1] at HX2 HB2 ⊢
  have HX := Lib.hid HX2.out
  clear HX2 HB2 hw1 w2
  have D1 := Lib.hid (C1.out w1 HX.out)
  have r1 := (R1.out.below HX.out R1.out.lt).cell
  have r2 := (R2.out.below HX.out R2.out.lt).cell
  simp only [vv, hd_mk, names_mk, parts_mk] at D1
  clear C1
  go_wp2_with fail
  refine D1.out.mono ?_
  rintro e w2 ⟨rfl, h2⟩
  have HX2 := Lib.hid (HX.out.trans (h2.mono HX.out.size))
  have HB2 := Lib.hid (HB.out.trans (HX2.out.mono HB.out.size))
  clear h2 D1 HX r1 r2 w1
  cases l2 with
  | false =>
    clear C2 C3 C4 C5
    have CA := Lib.hid (awake_any _ (HT.out.step HB2.out))
    go_wp2_with fail
    refine CA.out.mono ?_
    rintro e w9 ⟨rfl, hb9⟩
    have HB9 := Lib.hid (HB2.out.trans (hb9.mono HB2.out.size))
    clear hb9 CA
    go_wp2_with fail
    (first | go_ret | go_ret2)
    exact ⟨rfl, HB9.out⟩
  | true =>
  obtain ⟨w1, hw1⟩ : ∃ w1, w1 = w2 := ⟨_, rfl⟩
  rw [← hw1] at HX2 HB2 ⊢
  have HX := Lib.hid HX2.out
  clear HX2 HB2 hw1 w2
  have D2 := Lib.hid (C2.out (by first | rfl | trivial) w1 HX.out)
  have r1 := (R1.out.below HX.out R1.out.lt).cell
  have r2 := (R2.out.below HX.out R2.out.lt).cell
  simp only [vv, hd_mk, names_mk, parts_mk] at D2
  clear C2
  go_wp2_with fail
  refine D2.out.mono ?_
  rintro e w2 ⟨rfl, h2⟩
  have HX2 := Lib.hid (HX.out.trans (h2.mono HX.out.size))
  have HB2 := Lib.hid (HB.out.trans (HX2.out.mono HB.out.size))
  clear h2 D2 HX r1 r2 w1
  cases r1 with
  | false =>
    clear C3 C4 C5
    have CA := Lib.hid (awake_any _ (HT.out.step HB2.out))
    go_wp2_with fail
    refine CA.out.mono ?_
    rintro e w9 ⟨rfl, hb9⟩
    have HB9 := Lib.hid (HB2.out.trans (hb9.mono HB2.out.size))
    clear hb9 CA
    go_wp2_with fail
    (first | go_ret | go_ret2)
    exact ⟨rfl, HB9.out⟩
  | true =>
  obtain ⟨w1, hw1⟩ : ∃ w1, w1 = w2 := ⟨_, rfl⟩
  rw [← hw1] at HX2 HB2 ⊢
  have HX := Lib.hid HX2.out
  clear HX2 HB2 hw1 w2
  have D3 := Lib.hid (C3.out (by first | rfl | trivial) w1 HX.out)
  have r1 := (R1.out.below HX.out R1.out.lt).cell
  have r2 := (R2.out.below HX.out R2.out.lt).cell
  simp only [vv, hd_mk, names_mk, parts_mk] at D3
  clear C3
  go_wp2_with fail
  refine D3.out.mono ?_
  rintro e w2 ⟨rfl, h2⟩
  have HX2 := Lib.hid (HX.out.trans (h2.mono HX.out.size))
  have HB2 := Lib.hid (HB.out.trans (HX2.out.mono HB.out.size))
  clear h2 D3 HX r1 r2 w1
  cases r2 with
  | false =>
    clear C4 C5
    have CA := Lib.hid (awake_any _ (HT.out.step HB2.out))
    go_wp2_with fail
    refine CA.out.mono ?_
    rintro e w9 ⟨rfl, hb9⟩
    have HB9 := Lib.hid (HB2.out.trans (hb9.mono HB2.out.size))
    clear hb9 CA
    go_wp2_with fail
    (first | go_ret | go_ret2)
    exact ⟨rfl, HB9.out⟩
  | true =>
  obtain ⟨w1, hw1⟩ : ∃ w1, w1 = w2 := ⟨_, rfl⟩
  rw [← hw1] at HX2 HB2 ⊢
  have HX := Lib.hid HX2.out
  clear HX2 HB2 hw1 w2
  have D4 := Lib.hid (C4.out (by first | rfl | trivial) (by first | rfl | trivial) w1 HX.out)
  have r1 := (R1.out.below HX.out R1.out.lt).cell
  have r2 := (R2.out.below HX.out R2.out.lt).cell
  simp only [vv, hd_mk, names_mk, parts_mk] at D4
  clear C4
  go_wp2_with fail
  refine D4.out.mono ?_
  rintro e w2 ⟨rfl, h2⟩
  have HX2 := Lib.hid (HX.out.trans (h2.mono HX.out.size))
  have HB2 := Lib.hid (HB.out.trans (HX2.out.mono HB.out.size))
  clear h2 D4 HX r1 r2 w1
  cases n1 with
  | false =>
    clear C5
    have CA := Lib.hid (awake_any _ (HT.out.step HB2.out))
    go_wp2_with fail
    refine CA.out.mono ?_
    rintro e w9 ⟨rfl, hb9⟩
    have HB9 := Lib.hid (HB2.out.trans (hb9.mono HB2.out.size))
    clear hb9 CA
    go_wp2_with fail
    (first | go_ret | go_ret2)
    exact ⟨rfl, HB9.out⟩
  | true =>
  obtain ⟨w1, hw1⟩ : ∃ w1, w1 = w2 := ⟨_, rfl⟩
  rw [← hw1] at HX2 HB2 ⊢
  have HX := Lib.hid HX2.out
  clear HX2 HB2 hw1 w2
  have D5 := Lib.hid (C5.out (by first | rfl | trivial) (by first | rfl | trivial) w1 HX.out)
  have r1 := (R1.out.below HX.out R1.out.lt).cell
  have r2 := (R2.out.below HX.out R2.out.lt).cell
  simp only [vv, hd_mk, names_mk, parts_mk] at D5
  clear C5
  go_wp2_with fail
  refine D5.out.mono ?_
  rintro e w2 ⟨rfl, h2⟩
  have HX2 := Lib.hid (HX.out.trans (h2.mono HX.out.size))
  have HB2 := Lib.hid (HB.out.trans (HX2.out.mono HB.out.size))
  clear h2 D5 HX r1 r2 w1
  cases n2 with
  | false =>
    skip
    have CA := Lib.hid (awake_any _ (HT.out.step HB2.out))
    go_wp2_with fail
    refine CA.out.mono ?_
    rintro e w9 ⟨rfl, hb9⟩
    have HB9 := Lib.hid (HB2.out.trans (hb9.mono HB2.out.size))
    clear hb9 CA
    go_wp2_with fail
    (first | go_ret | go_ret2)
    exact ⟨rfl, HB9.out⟩
  | true =>
  obtain ⟨w1, hw1⟩ : ∃ w1, w1 = w2 := ⟨_, rfl⟩
  rw [← hw1] at HX2 HB2 ⊢
  have HX := Lib.hid HX2.out
  clear HX2 HB2 hw1 w2
  have KK1 := Lib.hid (K1.out (by first | rfl | trivial))
  have KK2 := Lib.hid (K2.out (by first | rfl | trivial))
  have HS : Hid (((textS (.mk vh vn vp)).toList == (textS (.mk uh un up)).toList) = ((.mk vh vn vp) : Vl).same (.mk uh un up)) := text_same Er1.out.symm Er2.out.symm En1.out.symm En2.out.symm
  have HB1 : Hid (Below w.heap.size w w1) := HB.out.trans (HX.out.mono HB.out.size)
  have HTB := Lib.hid (HT.out.step HB1.out)
  have HV1 := Lib.hid (HV.out.below HX.out)
  have HU1 := Lib.hid (HU.out.below HX.out)
  have R11 := R1.out.below HX.out R1.out.lt
  have R21 := R2.out.below HX.out R2.out.lt
  have c3 := R11.cell
  have l3 := R11.lt
  have c4 := R21.cell
  have l4 := R21.lt
  clear K1 K2 R11 R21
  have D1 : Below w1.heap.size w1 w1.drew := Below.drew (Below.refl _ _)
  go_upto_region 3 with fail
  refine wp_region_G (S := SG (fun w' => Below w1.heap.size w1 w') 99 (fun _ => True) 99 (fun _ => True)) (by kernel_rfl) ⟨D1, fun _ => trivial, fun _ => trivial⟩ (fun hS => ?_)
  refine wpG_ready (rs := [0]) (by kernel_rfl) (by simp) ?_
  refine RG.consG rfl rfl (fun K hK => ?_) RG.nil
  go_simp
  refine (awake_any _ (HTB.out.step D1)).mono ?_
  rintro e x1 ⟨rfl, hx1⟩
  go_wp2_with fail
  have HG1 := Lib.hid (D1.trans (hx1.mono D1.size))
  clear hx1
  refine hK.out _ _ ⟨HG1.out, fun _ => trivial, fun _ => trivial⟩ (fun hS => ?_)
  clear hK K
  try simp only [Act.put, List.setIfInBounds_toArray, List.set_cons_zero, List.set_cons_succ]
  refine wpG_take0 (i := 1) (v := ?v1) rfl (by kernel_rfl) (by kernel_rfl) (by kernel_rfl) (by decide) (by decide) (fun _ _ _ h => h) hS (Or.inl ⟨by rfl, ?hy1⟩) ?rest1
  case hy1 => (intro w' hw; (try dsimp only at hw); have u1 := fun j => (hw.cell (p := ⟨w.heap.size, j, none⟩) l3).trans (c3 j); have u2 := fun j => (hw.cell (p := ⟨w.heap.size + 1, j, none⟩) l4).trans (c4 j); go_simp; try with_reducible rfl)
  replace hS := SG.set (i := 1) (by decide) (by decide) hS
  try simp only [Act.put, List.setIfInBounds_toArray, List.set_cons_zero, List.set_cons_succ]
  refine wpG_take0 (i := 2) (v := ?v2) rfl (by kernel_rfl) (by kernel_rfl) (by kernel_rfl) (by decide) (by decide) (fun _ _ _ h => h) hS (Or.inl ⟨by rfl, ?hy2⟩) ?rest2
  case hy2 => (intro w' hw; (try dsimp only at hw); have u1 := fun j => (hw.cell (p := ⟨w.heap.size, j, none⟩) l3).trans (c3 j); have u2 := fun j => (hw.cell (p := ⟨w.heap.size + 1, j, none⟩) l4).trans (c4 j); go_simp; try with_reducible rfl)
  replace hS := SG.set (i := 2) (by decide) (by decide) hS
  try simp only [Act.put, List.setIfInBounds_toArray, List.set_cons_zero, List.set_cons_succ]
  refine wpG_take0 (i := 5) (v := ?v3) rfl (by kernel_rfl) (by kernel_rfl) (by kernel_rfl) (by decide) (by decide) (fun _ _ _ h => h) hS (Or.inl ⟨by rfl, ?hy3⟩) ?rest3
  case hy3 => (intro w' hw; (try dsimp only at hw); have u1 := fun j => (hw.cell (p := ⟨w.heap.size, j, none⟩) l3).trans (c3 j); have u2 := fun j => (hw.cell (p := ⟨w.heap.size + 1, j, none⟩) l4).trans (c4 j); go_simp; try with_reducible rfl)
  replace hS := SG.set (i := 5) (by decide) (by decide) hS
  try simp only [Act.put, List.setIfInBounds_toArray, List.set_cons_zero, List.set_cons_succ]
  refine wpG_take0 (i := 9) (v := ?v4) rfl (by kernel_rfl) (by kernel_rfl) (by kernel_rfl) (by decide) (by decide) (fun _ _ _ h => h) hS (Or.inl ⟨by rfl, ?hy4⟩) ?rest4
  case hy4 => (intro w' hw; (try dsimp only at hw); have u1 := fun j => (hw.cell (p := ⟨w.heap.size, j, none⟩) l3).trans (c3 j); have u2 := fun j => (hw.cell (p := ⟨w.heap.size + 1, j, none⟩) l4).trans (c4 j); go_simp; try with_reducible rfl)
  replace hS := SG.set (i := 9) (by decide) (by decide) hS
  try simp only [Act.put, List.setIfInBounds_toArray, List.set_cons_zero, List.set_cons_succ]
  refine wpG_take0 (i := 10) (v := ?v5) rfl (by kernel_rfl) (by kernel_rfl) (by kernel_rfl) (by decide) (by decide) (fun _ _ _ h => h) hS (Or.inl ⟨by rfl, ?hy5⟩) ?rest5
  case hy5 => (intro w' hw; (try dsimp only at hw); have u1 := fun j => (hw.cell (p := ⟨w.heap.size, j, none⟩) l3).trans (c3 j); have u2 := fun j => (hw.cell (p := ⟨w.heap.size + 1, j, none⟩) l4).trans (c4 j); go_simp; try with_reducible rfl)
  replace hS := SG.set (i := 10) (by decide) (by decide) hS
  try simp only [Act.put, List.setIfInBounds_toArray, List.set_cons_zero, List.set_cons_succ]
  refine wpG_ready (rs := [3]) (by kernel_rfl) (by simp) ?_
  refine RG.consG rfl rfl (fun K hK => ?_) RG.nil
  go_simp
  refine (to_any (.mk vh vn vp) KK1.out.1 _ _ An cn A c (HV1.out.below HG1.out)).mono ?_
  rintro e x2 ⟨hx2, En, en, E, e', rfl, ht1⟩
  go_wp2_with fail
  have HG2 := Lib.hid (HG1.out.trans (hx2.mono HG1.out.size))
  clear hx2
  refine hK.out _ _ ⟨HG2.out, fun _ => trivial, fun _ => trivial⟩ (fun hS => ?_)
  clear hK K
  try simp only [Act.put, List.setIfInBounds_toArray, List.set_cons_zero, List.set_cons_succ]
  refine wpG_ready (rs := [4]) (by kernel_rfl) (by simp) ?_
  refine RG.consG rfl rfl (fun K hK => ?_) RG.nil
  go_simp
  refine (text_any (.mk vh vn vp) KK1.out.1 HRV.out KK1.out.2 (text_lim HRV.out KK1.out.2) _ _ En en E e' ht1 (HTB.out.step HG2.out)).mono ?_
  rintro e x3 ⟨rfl, hx3⟩
  go_wp2_with fail
  have HG3 := Lib.hid (HG2.out.trans (hx3.mono HG2.out.size))
  clear hx3
  refine hK.out _ _ ⟨HG3.out, fun _ => trivial, fun _ => trivial⟩ (fun hS => ?_)
  clear hK K
  try simp only [Act.put, List.setIfInBounds_toArray, List.set_cons_zero, List.set_cons_succ]
  refine wpG_ready (rs := [6]) (by kernel_rfl) (by simp) ?_
  refine RG.consG rfl rfl (fun K hK => ?_) RG.nil
  go_simp
  refine (to_any (.mk uh un up) KK2.out.1 _ _ Bn dn B d (HU1.out.below HG3.out)).mono ?_
  rintro e x4 ⟨hx4, Fn, fn, F, f', rfl, ht2⟩
  go_wp2_with fail
  have HG4 := Lib.hid (HG3.out.trans (hx4.mono HG3.out.size))
  clear hx4
  refine hK.out _ _ ⟨HG4.out, fun _ => trivial, fun _ => trivial⟩ (fun hS => ?_)
  clear hK K
  try simp only [Act.put, List.setIfInBounds_toArray, List.set_cons_zero, List.set_cons_succ]
  refine wpG_ready (rs := [7]) (by kernel_rfl) (by simp) ?_
  refine RG.consG rfl rfl (fun K hK => ?_) RG.nil
  go_simp
  refine (text_any (.mk uh un up) KK2.out.1 HRU.out KK2.out.2 (text_lim HRU.out KK2.out.2) _ _ Fn fn F f' ht2 (HTB.out.step HG4.out)).mono ?_
  rintro e x5 ⟨rfl, hx5⟩
  go_wp2_with fail
  have HG5 := Lib.hid (HG4.out.trans (hx5.mono HG4.out.size))
  clear hx5
  refine hK.out _ _ ⟨HG5.out, fun _ => trivial, fun _ => trivial⟩ (fun hS => ?_)
  clear hK K
  try simp only [Act.put, List.setIfInBounds_toArray, List.set_cons_zero, List.set_cons_succ]
  refine wpG_take0 (i := 8) (v := ?v6) rfl (by kernel_rfl) (by kernel_rfl) (by kernel_rfl) (by decide) (by decide) (fun _ _ _ h => h) hS (Or.inl ⟨by rfl, ?hy6⟩) ?rest6
  case hy6 => (intro w' hw; (try dsimp only at hw); have u1 := fun j => (hw.cell (p := ⟨w.heap.size, j, none⟩) l3).trans (c3 j); have u2 := fun j => (hw.cell (p := ⟨w.heap.size + 1, j, none⟩) l4).trans (c4 j); go_simp; try with_reducible rfl)
  replace hS := SG.set (i := 8) (by decide) (by decide) hS
  try simp only [Act.put, List.setIfInBounds_toArray, List.set_cons_zero, List.set_cons_succ]
  refine wpG_ready (rs := [11]) (by kernel_rfl) (by simp) ?_
  refine RG.consG rfl rfl (fun K hK => ?_) RG.nil
  go_simp
  refine (rsame_any (.mk vh vn vp) KK1.out.1 (.mk uh un up) KK2.out.1 _ _ _ An cn A c Bn dn B d (HV1.out.below HG5.out) (HU1.out.below HG5.out)).mono ?_
  rintro e x6 ⟨rfl, hx6⟩
  go_wp2_with fail
  have HG6 := Lib.hid (HG5.out.trans (hx6.mono HG5.out.size))
  clear hx6
  refine hK.out _ _ ⟨HG6.out, fun _ => trivial, fun _ => trivial⟩ (fun hS => ?_)
  clear hK K
  try simp only [Act.put, List.setIfInBounds_toArray, List.set_cons_zero, List.set_cons_succ]
  refine wpG_take0 (i := 12) (v := ?v7) rfl (by kernel_rfl) (by kernel_rfl) (by kernel_rfl) (by decide) (by decide) (fun _ _ _ h => h) hS (Or.inl ⟨by rfl, ?hy7⟩) ?rest7
  case hy7 => (intro w' hw; (try dsimp only at hw); have u1 := fun j => (hw.cell (p := ⟨w.heap.size, j, none⟩) l3).trans (c3 j); have u2 := fun j => (hw.cell (p := ⟨w.heap.size + 1, j, none⟩) l4).trans (c4 j); go_simp; try with_reducible rfl)
  replace hS := SG.set (i := 12) (by decide) (by decide) hS
  try simp only [Act.put, List.setIfInBounds_toArray, List.set_cons_zero, List.set_cons_succ]
  refine wpG_take0 (i := 13) (v := ?v8) rfl (by kernel_rfl) (by kernel_rfl) (by kernel_rfl) (by decide) (by decide) (fun _ _ _ h => h) hS (Or.inl ⟨by rfl, ?hy8⟩) ?rest8
  case hy8 => (intro w' hw; (try dsimp only at hw); have u1 := fun j => (hw.cell (p := ⟨w.heap.size, j, none⟩) l3).trans (c3 j); have u2 := fun j => (hw.cell (p := ⟨w.heap.size + 1, j, none⟩) l4).trans (c4 j); go_simp; try with_reducible rfl)
  replace hS := SG.set (i := 13) (by decide) (by decide) hS
  try simp only [Act.put, List.setIfInBounds_toArray, List.set_cons_zero, List.set_cons_succ]
  refine wpG_take0 (i := 14) (v := ?v9) rfl (by kernel_rfl) (by kernel_rfl) (by kernel_rfl) (by decide) (by decide) (fun _ _ _ h => h) hS (Or.inl ⟨by rfl, ?hy9⟩) ?rest9
  case hy9 => (intro w' hw; (try dsimp only at hw); have u1 := fun j => (hw.cell (p := ⟨w.heap.size, j, none⟩) l3).trans (c3 j); have u2 := fun j => (hw.cell (p := ⟨w.heap.size + 1, j, none⟩) l4).trans (c4 j); go_simp; try with_reducible rfl)
  replace hS := SG.set (i := 14) (by decide) (by decide) hS
  try simp only [Act.put, List.setIfInBounds_toArray, List.set_cons_zero, List.set_cons_succ]
  refine wpG_done (by kernel_rfl) ?_ _
  clear hS
  go_wp2_with fail
  (first | go_ret | go_ret2)
  refine ⟨?_, HB1.out.trans (HG6.out.mono HB1.out.size)⟩
  change Ending.returned (.bool (((textS (.mk vh vn vp)).toList == (textS (.mk uh un up)).toList) == ((.mk vh vn vp) : Vl).same (.mk uh un up))) = _
  rw [HS.out, beq_self_eq_true]
end Vm
end Go.Proofs.YtbjlhdjcdinmhaaDoor
