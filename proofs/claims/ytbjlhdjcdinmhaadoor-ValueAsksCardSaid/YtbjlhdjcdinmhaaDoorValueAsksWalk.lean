/- The law ValueAsks, walked. -/
import Derived.Test.YtbjlhdjcdinmhaaDoorValueNamesWalk
import Derived.Test.YtbjlhdjcdinmhaaDoorTG
import Derived.Test.YtbjlhdjcdinmhaaDoorTC
namespace Go.Proofs.YtbjlhdjcdinmhaaDoor
open Go.RowKit Go.Op
namespace Vm
theorem psm_any {v u : Vl} (hv : v.cnt ≤ 1000001) (hu : u.cnt ≤ 1000001) {b : Bool} (e : b = v.same u) (w : World) (P P' : Nat → Prop) (An : Option Addr) (cn : Nat) (A : Option Addr) (c : Nat) (Bn : Option Addr) (dn : Nat) (B : Option Addr) (d : Nat) (h : VI w P v An cn A c) (h' : VI w P' u Bn dn B d) :
    Calls Tryd.prog 15 #[vv v An cn A c, vv u Bn dn B d] w fun e w' => e = .returned (.bool b) ∧ Below w.heap.size w w' := by rw [e]; exact psame_any v hv u hu w P P' An cn A c Bn dn B d h h'
theorem rsm_any {v u : Vl} (hv : v.cnt ≤ 1000001) (hu : u.cnt ≤ 1000001) {b : Bool} (e : b = v.same u) (w : World) (P P' : Nat → Prop) (An : Option Addr) (cn : Nat) (A : Option Addr) (c : Nat) (Bn : Option Addr) (dn : Nat) (B : Option Addr) (d : Nat) (h : VI w P v An cn A c) (h' : VI w P' u Bn dn B d) :
    Calls Tryd.prog 16 #[vv v An cn A c, vv u Bn dn B d] w fun e w' => e = .returned (.bool b) ∧ Below w.heap.size w w' := by rw [e]; exact rsame_any v hv u hu w P P' An cn A c Bn dn B d h h'
theorem ptx_any {v : Vl} (hr : v.right = true) (hc : v.cnt ≤ 1000001) (hg : v.rng) (hb : v.byt ≤ 100000) {X : ByteArray} (e : X = txS v) (w : World) (P : Nat → Prop) (An : Option Addr) (cn : Nat) (A : Option Addr) (c : Nat) (h : VI w P v An cn A c) (hT : Tb w) :
    Calls Tryd.prog 18 #[vv v An cn A c] w fun e w' => e = .returned (.string X) ∧ Below w.heap.size w w' := by rw [e, ← txS_of hr]; exact text_any v hc hg hb (text_lim hg hb) w P An cn A c h hT
theorem rtx_any {v : Vl} (hr : v.right = true) (hc : v.cnt ≤ 1000001) (hg : v.rng) (hb : v.byt ≤ 100000) {X : ByteArray} (e : X = txS v) (w : World) (P : Nat → Prop) (An : Option Addr) (cn : Nat) (A : Option Addr) (c : Nat) (h : VI w P v An cn A c) :
    Calls Tryd.prog 19 #[vv v An cn A c] w fun e w' => e = .returned (.string X) ∧ Below w.heap.size w w' := by rw [e]; exact rtext_any v hr hg hb hc w P An cn A c h
theorem pft_any {v : Vl} {t : Tm.Ty} (hr : v.right = true) (hc : v.cnt ≤ 1000001) {b : Bool} (e : b = fitB v t.kind t.names t.parts.length) (w : World) (P P' : Nat → Prop) (An : Option Addr) (cn : Nat) (A : Option Addr) (c : Nat) (h : VI w P v An cn A c) (Dn : Option Addr) (en : Nat) (D : Option Addr) (e0 : Nat) (ht : t.cnt ≤ 41000) (h' : Tm.TI w P' t Dn en D e0) :
    Calls Tryd.prog 20 #[vv v An cn A c, Tm.tv t Dn en D e0] w fun e w' => e = .returned (.bool b) ∧ Below w.heap.size w w' := by
  rw [e]
  obtain ⟨k, ns, ps⟩ := v
  have h1 := VI_iff.1 h
  have h2 := Tm.TI_iff.1 h'
  have h3 := Tm.cnt_names t
  have h4 := Tm.cnt_len t
  rw [Vl.cnt] at hc
  exact fits_any w k ns ps P P' An cn A c h1.1 h1.2 (by omega) hr t.kind t.names Dn en h2.1 (by omega) D t.parts.length e0 (by omega)
theorem rft_any {v : Vl} {t : Tm.Ty} (hr : v.right = true) (hc : v.cnt ≤ 1000001) {b : Bool} (e : b = fitB v t.kind t.names t.parts.length) (w : World) (P P' : Nat → Prop) (An : Option Addr) (cn : Nat) (A : Option Addr) (c : Nat) (h : VI w P v An cn A c) (Dn : Option Addr) (en : Nat) (D : Option Addr) (e0 : Nat) (ht : t.cnt ≤ 41000) (h' : Tm.TI w P' t Dn en D e0) :
    Calls Tryd.prog 21 #[vv v An cn A c, Tm.tv t Dn en D e0] w fun e w' => e = .returned (.bool b) ∧ Below w.heap.size w w' := by
  rw [e]
  obtain ⟨k, ns, ps⟩ := v
  rw [fit_same hr]
  have h1 := VI_iff.1 h
  have h2 := Tm.TI_iff.1 h'
  have h3 := Tm.cnt_names t
  have h4 := Tm.cnt_len t
  rw [Vl.cnt] at hc
  exact rfits_any w k ns P P' An cn A ps.length c h1.1 (by omega) t.kind t.names Dn en h2.1 (by omega) D t.parts.length e0 (by omega)
/-- What a name has among the first names. -/
theorem lk_snoc : ∀ {ns : List ByteArray} {ps : List Vl} {i : Nat} {x y : ByteArray} {p : Vl}, ns[i]? = some y → ps[i]? = some p → lk (ns.take (i + 1)) (ps.take (i + 1)) x = (match lk (ns.take i) (ps.take i) x with | some q => some q | none => if y = x then some p else none)
  | [], _, _, _, _, _, h, _ => by simp at h
  | _ :: _, [], _, _, _, _, _, h => by simp at h
  | a :: ns, b :: ps, 0, x, y, p, h, h' => by
    obtain rfl : a = y := by simpa using h
    obtain rfl : b = p := by simpa using h'
    simp [lk]
  | a :: ns, b :: ps, i + 1, x, y, p, h, h' => by
    have ih := lk_snoc (ns := ns) (ps := ps) (i := i) (x := x) (y := y) (p := p) (by simpa using h) (by simpa using h')
    rw [List.take_succ_cons, List.take_succ_cons, List.take_succ_cons, List.take_succ_cons, lk, lk, ih]
    by_cases e : a = x
    · rw [if_pos e, if_pos e]
    · rw [if_neg e, if_neg e]
theorem lk_hit {ns : List ByteArray} {ps : List Vl} {i : Nat} {x y : ByteArray} {p : Vl} (hn : ns.Nodup) (e : ns[i]? = some y) (e' : ps[i]? = some p) (h : y = x) : lk (ns.take (i + 1)) (ps.take (i + 1)) x = some p := by
  rw [lk_snoc e e', lk_none (fun hx => by
    obtain ⟨k, hk, e2⟩ := List.getElem_of_mem hx
    rw [List.length_take] at hk
    have e3 : ns[k]? = some x := by rw [List.getElem_take] at e2; rw [List.getElem?_eq_getElem (by omega), e2]
    have := nodup_at hn e3 (by rw [← h]; exact e)
    omega), if_pos h]
theorem lk_miss {ns : List ByteArray} {ps : List Vl} {i : Nat} {x y : ByteArray} {p : Vl} (e : ns[i]? = some y) (e' : ps[i]? = some p) (h : y ≠ x) : lk (ns.take (i + 1)) (ps.take (i + 1)) x = lk (ns.take i) (ps.take i) x := by
  rw [lk_snoc e e', if_neg h]
  cases lk (ns.take i) (ps.take i) x <;> rfl
theorem field_lk {k : VH} {ns : List ByteArray} {ps : List Vl} (hr : (Vl.mk k ns ps).right = true) (x : ByteArray) : (Vl.mk k ns ps).field x = lk ns ps x := by
  unfold Vl.field
  rw [hd_mk, names_mk, parts_mk]
  by_cases hk : k.kind = 3
  · rw [if_pos hk]
  · rw [if_neg hk]
    rcases right_cases hr with ⟨_, _, h, _⟩ | ⟨_, _, h, _⟩ | ⟨_, _, _, h, _⟩ | ⟨h, _⟩
    · rw [h]; simp [lk]
    · rw [h]; simp [lk]
    · rw [h]; simp [lk]
    · exact absurd h hk
theorem row_put5 {w : World} {g e : Nat} {a0 a1 a2 a3 a4 : Value} (h : RowB w g e #[a0, a1, a2, a3, a4]) (u0 u1 u2 u3 u4 : Value) : RowB (put5 w g u0 u1 u2 u3 u4) g e #[u0, u1, u2, u3, u4] := ((((h.put 0 u0).put 1 u1).put 2 u2).put 3 u3).put 4 u4
theorem row_far5 {w : World} {g e R : Nat} {cs : Array Value} (h : RowB w g e cs) (hn : g ≠ R) (u0 u1 u2 u3 u4 : Value) : RowB (put5 w R u0 u1 u2 u3 u4) g e cs := (put5_block w R u0 u1 u2 u3 u4 hn).trans h
set_option maxHeartbeats 32000000 in
set_option maxRecDepth 100000 in
theorem asks_walk (w : World) (v : Vl) (P : Nat → Prop) (An : Option Addr) (cn : Nat) (A : Option Addr) (c : Nat) (h : VI w P v An cn A c) (u : Vl) (P' : Nat → Prop) (Bn : Option Addr) (dn : Nat) (B : Option Addr) (d : Nat) (h' : VI w P' u Bn dn B d)
    (t : Tm.Ty) (P2 : Nat → Prop) (Dn : Option Addr) (en : Nat) (D : Option Addr) (e0 : Nat) (h2 : Tm.TI w P2 t Dn en D e0) (nm : ByteArray) (hv : v.rng) (hT : Tb w) :
    Calls Tryd.prog 3 #[vv v An cn A c, vv u Bn dn B d, Tm.tv t Dn en D e0, .string nm] w fun e w' => e = .returned (.bool true) ∧ Below w.heap.size w w' := by
  obtain ⟨vh, vn, vp⟩ := v
  obtain ⟨uh, un, up⟩ := u
  obtain ⟨tk, tn, tp⟩ := t
  have h := h.low
  have HT := Lib.hid hT
  have HRV := Lib.hid hv
  obtain ⟨W, hW⟩ : ∃ W, W = ((w.alloc (.cells (varr vh An vn.length cn A vp.length c) 25)).alloc (.cells (varr uh Bn un.length dn B up.length d) 25)).alloc (.cells #[.int .i64 tk, .slice Dn tn.length en, .slice D tp.length e0] 28) := ⟨_, rfl⟩
  have b1 : Below w.heap.size w W := by rw [hW]; exact (((Below.refl _ w).alloc (Nat.le_refl _) _).alloc (by simp) _).alloc (by simp; omega) _
  have HWS : Hid (W.heap.size = w.heap.size + 3) := by unfold Hid; rw [hW]; simp
  have R1 : Hid (RowB W w.heap.size 25 (varr vh An vn.length cn A vp.length c)) := by rw [hW]; exact ((RowB.new w 25 _).alloc _).alloc _
  have R2 : Hid (RowB W (w.heap.size + 1) 25 (varr uh Bn un.length dn B up.length d)) := by
    have := (RowB.new (w.alloc (.cells (varr vh An vn.length cn A vp.length c) 25)) 25 (varr uh Bn un.length dn B up.length d)).alloc (.cells #[.int .i64 tk, .slice Dn tn.length en, .slice D tp.length e0] 28)
    rw [hW]
    unfold Hid
    simpa using this
  have R3 : Hid (RowB W (w.heap.size + 2) 28 #[.int .i64 tk, .slice Dn tn.length en, .slice D tp.length e0]) := by
    have := RowB.new ((w.alloc (.cells (varr vh An vn.length cn A vp.length c) 25)).alloc (.cells (varr uh Bn un.length dn B up.length d) 25)) 28 #[.int .i64 tk, .slice Dn tn.length en, .slice D tp.length e0]
    rw [hW]
    unfold Hid
    simpa using this
  have HV : Hid (VI W (fun g => P g ∧ g < w.heap.size) (.mk vh vn vp) An cn A c) := h.below b1
  have HU : Hid (VI W P' (.mk uh un up) Bn dn B d) := h'.below b1
  have HTY : Hid (Tm.TI W P2 (.mk tk tn tp) Dn en D e0) := h2.below b1
  have HB := Lib.hid b1
  obtain ⟨l1, hl1⟩ : ∃ b, b = (Vl.mk vh vn vp).light := ⟨_, rfl⟩
  have El1 := Lib.hid hl1
  have Kv : Hid (l1 = true → ((.mk vh vn vp) : Vl).cnt ≤ 1000001 ∧ ((.mk vh vn vp) : Vl).byt ≤ 100000) := fun h => by
    have := light_cnt (VI.nsz HV.out) (hl1.symm.trans h)
    exact ⟨by omega, by omega⟩
  have C0 : Hid (∀ w', Below W.heap.size W w' → Calls Tryd.prog 8 #[vv (.mk vh vn vp) An cn A c] w' fun e w2 => e = .returned (.bool l1) ∧ Below w'.heap.size w' w2) := fun w' hb => by rw [El1.out]; exact light_any w' _ _ An cn A c (HV.out.below hb)
  clear hl1
  obtain ⟨l2, hl2⟩ : ∃ b, b = (Vl.mk uh un up).light := ⟨_, rfl⟩
  have El2 := Lib.hid hl2
  have Ku : Hid (l2 = true → ((.mk uh un up) : Vl).cnt ≤ 1000001 ∧ ((.mk uh un up) : Vl).byt ≤ 100000) := fun h => by
    have := light_cnt (VI.nsz HU.out) (hl2.symm.trans h)
    exact ⟨by omega, by omega⟩
  have C1 : Hid (∀ w', Below W.heap.size W w' → Calls Tryd.prog 8 #[vv (.mk uh un up) Bn dn B d] w' fun e w2 => e = .returned (.bool l2) ∧ Below w'.heap.size w' w2) := fun w' hb => by rw [El2.out]; exact light_any w' _ _ Bn dn B d (HU.out.below hb)
  clear hl2
  obtain ⟨l3, hl3⟩ : ∃ b, b = (Tm.Ty.mk tk tn tp).light := ⟨_, rfl⟩
  have El3 := Lib.hid hl3
  have Kt : Hid (l3 = true → ((.mk tk tn tp) : Tm.Ty).cnt ≤ 41000) := fun h => (Tm.light_cnt (hl3.symm.trans h)).1
  have C2 : Hid (∀ w', Below W.heap.size W w' → Calls Tryd.prog 9 #[Tm.tv (.mk tk tn tp) Dn en D e0] w' fun e w2 => e = .returned (.bool l3) ∧ Below w'.heap.size w' w2) := fun w' hb => by rw [El3.out]; exact Tm.light_any w' _ _ Dn en D e0 (HTY.out.below hb)
  clear hl3
  obtain ⟨r3, hr3⟩ : ∃ b, b = (Tm.Ty.mk tk tn tp).right := ⟨_, rfl⟩
  have Er3 := Lib.hid hr3
  have C3 : Hid (l3 = true → ∀ w', Below W.heap.size W w' → Calls Tryd.prog 10 #[Tm.tv (.mk tk tn tp) Dn en D e0] w' fun e w2 => e = .returned (.bool r3) ∧ Below w'.heap.size w' w2) := fun h w' hb => by rw [Er3.out]; exact Tm.rright_any _ (by have := Kt.out h; omega) w' _ Dn en D e0 (HTY.out.below hb)
  clear hr3
  have e1 := hW
  obtain ⟨w1, hw1⟩ : ∃ w1, w1 = W := ⟨_, rfl⟩
  have HX : Hid (Below W.heap.size W w1) := by rw [hw1]; exact Below.refl _ _
  simp only [varr] at e1
  rw [← hw1] at e1
  clear h h' h2 hT hv b1 hW hw1
  go_enter Tryd.func3, Tryd.ntmps3
  have D0 := Lib.hid (C0.out w1 HX.out)
  have r1 := (R1.out.below HX.out R1.out.lt).cell
  have r2 := (R2.out.below HX.out R2.out.lt).cell
  have r3 := (R3.out.below HX.out R3.out.lt).cell
  simp only [vv, hd_mk, names_mk, parts_mk] at D0
  clear C0
  go_wp2_with fail
  rw [← e1]
  clear e1
  refine D0.out.mono ?_
  rintro e w2 ⟨rfl, h2⟩
  have HX2 := Lib.hid (HX.out.trans (h2.mono HX.out.size))
  have HB2 := Lib.hid (HB.out.trans (HX2.out.mono HB.out.size))
  clear h2 D0 HX r1 r2 r3 w1
  cases l1 with
  | false =>
    clear C1 C2 C3
    have CA := Lib.hid (awake_any _ (HT.out.step HB2.out))
    go_wp2_with fail
    refine CA.out.mono ?_
    rintro e w9 ⟨rfl, hb9⟩
    have HB9 := Lib.hid (HB2.out.trans (hb9.mono HB2.out.size))
    clear hb9 CA
    go_wp2_with fail
    (first | go_ret | go_ret2)
    exact ⟨rfl, HB9.out⟩
  | true =>
  obtain ⟨w1, hw1⟩ : ∃ w1, w1 = w2 := ⟨_, rfl⟩
  rw [← hw1] at HX2 HB2 ⊢
  have HX := Lib.hid HX2.out
  clear HX2 HB2 hw1 w2
  have D1 := Lib.hid (C1.out w1 HX.out)
  have r1 := (R1.out.below HX.out R1.out.lt).cell
  have r2 := (R2.out.below HX.out R2.out.lt).cell
  have r3 := (R3.out.below HX.out R3.out.lt).cell
  simp only [vv, hd_mk, names_mk, parts_mk] at D1
  clear C1
  go_wp2_with fail
  refine D1.out.mono ?_
  rintro e w2 ⟨rfl, h2⟩
  have HX2 := Lib.hid (HX.out.trans (h2.mono HX.out.size))
  have HB2 := Lib.hid (HB.out.trans (HX2.out.mono HB.out.size))
  clear h2 D1 HX r1 r2 r3 w1
  cases l2 with
  | false =>
    clear C2 C3
    have CA := Lib.hid (awake_any _ (HT.out.step HB2.out))
    go_wp2_with fail
    refine CA.out.mono ?_
    rintro e w9 ⟨rfl, hb9⟩
    have HB9 := Lib.hid (HB2.out.trans (hb9.mono HB2.out.size))
    clear hb9 CA
    go_wp2_with fail
    (first | go_ret | go_ret2)
    exact ⟨rfl, HB9.out⟩
  | true =>
  obtain ⟨w1, hw1⟩ : ∃ w1, w1 = w2 := ⟨_, rfl⟩
  rw [← hw1] at HX2 HB2 ⊢
  have HX := Lib.hid HX2.out
  clear HX2 HB2 hw1 w2
  have D2 := Lib.hid (C2.out w1 HX.out)
  have r1 := (R1.out.below HX.out R1.out.lt).cell
  have r2 := (R2.out.below HX.out R2.out.lt).cell
  have r3 := (R3.out.below HX.out R3.out.lt).cell
  simp only [Tm.tv, Tm.kind_mk, Tm.names_mk, Tm.parts_mk] at D2
  clear C2
  go_wp2_with fail
  refine D2.out.mono ?_
  rintro e w2 ⟨rfl, h2⟩
  have HX2 := Lib.hid (HX.out.trans (h2.mono HX.out.size))
  have HB2 := Lib.hid (HB.out.trans (HX2.out.mono HB.out.size))
  clear h2 D2 HX r1 r2 r3 w1
  cases l3 with
  | false =>
    clear C3
    have CA := Lib.hid (awake_any _ (HT.out.step HB2.out))
    go_wp2_with fail
    refine CA.out.mono ?_
    rintro e w9 ⟨rfl, hb9⟩
    have HB9 := Lib.hid (HB2.out.trans (hb9.mono HB2.out.size))
    clear hb9 CA
    go_wp2_with fail
    (first | go_ret | go_ret2)
    exact ⟨rfl, HB9.out⟩
  | true =>
  obtain ⟨w1, hw1⟩ : ∃ w1, w1 = w2 := ⟨_, rfl⟩
  rw [← hw1] at HX2 HB2 ⊢
  have HX := Lib.hid HX2.out
  clear HX2 HB2 hw1 w2
  have D3 := Lib.hid (C3.out (by first | rfl | trivial) w1 HX.out)
  have r1 := (R1.out.below HX.out R1.out.lt).cell
  have r2 := (R2.out.below HX.out R2.out.lt).cell
  have r3 := (R3.out.below HX.out R3.out.lt).cell
  simp only [Tm.tv, Tm.kind_mk, Tm.names_mk, Tm.parts_mk] at D3
  clear C3
  go_wp2_with fail
  refine D3.out.mono ?_
  rintro e w2 ⟨rfl, h2⟩
  have HX2 := Lib.hid (HX.out.trans (h2.mono HX.out.size))
  have HB2 := Lib.hid (HB.out.trans (HX2.out.mono HB.out.size))
  clear h2 D3 HX r1 r2 r3 w1
  cases r3 with
  | false =>
    skip
    have CA := Lib.hid (awake_any _ (HT.out.step HB2.out))
    go_wp2_with fail
    refine CA.out.mono ?_
    rintro e w9 ⟨rfl, hb9⟩
    have HB9 := Lib.hid (HB2.out.trans (hb9.mono HB2.out.size))
    clear hb9 CA
    go_wp2_with fail
    (first | go_ret | go_ret2)
    exact ⟨rfl, HB9.out⟩
  | true =>
  obtain ⟨w1, hw1⟩ : ∃ w1, w1 = w2 := ⟨_, rfl⟩
  rw [← hw1] at HX2 HB2 ⊢
  have HX := Lib.hid HX2.out
  clear HX2 HB2 hw1 w2
  have KV := Lib.hid (Kv.out (by first | rfl | trivial))
  have KU := Lib.hid (Ku.out (by first | rfl | trivial))
  have KT := Lib.hid (Kt.out (by first | rfl | trivial))
  clear Kv Ku Kt
  have HB1 : Hid (Below w.heap.size w w1) := HB.out.trans (HX.out.mono HB.out.size)
  have r1 := (R1.out.below HX.out R1.out.lt).cell
  have r2 := (R2.out.below HX.out R2.out.lt).cell
  have r3 := (R3.out.below HX.out R3.out.lt).cell
  by_cases hs : nm.size > 1000
  · have q1 : (nm.size : Int) > 1000 := by omega
    clear hs
    have CA := Lib.hid (awake_any _ (HT.out.step HB1.out))
    go_wp2_with fail
    refine CA.out.mono ?_
    rintro e w9 ⟨rfl, hb9⟩
    have HB9 := Lib.hid (HB1.out.trans (hb9.mono HB1.out.size))
    clear hb9 CA
    go_wp2_with fail
    (first | go_ret | go_ret2)
    exact ⟨rfl, HB9.out⟩
  have q1 : ¬ (nm.size : Int) > 1000 := by omega
  have C3 := Lib.hid (to_any (.mk vh vn vp) KV.out.1 w1 _ An cn A c (HV.out.below HX.out))
  simp only [vv, hd_mk, names_mk, parts_mk] at C3
  clear hs
  go_wp2_with fail
  clear q1 r1 r2 r3
  refine C3.out.mono ?_
  rintro e w2 ⟨h2, Gn, gn, G, g', rfl, ht2⟩
  obtain ⟨w4, hw4⟩ : ∃ w4, w4 = w2.alloc (.cells (varr vh Gn vn.length gn G vp.length g') 34) := ⟨_, rfl⟩
  have b4 : Below w2.heap.size w2 w4 := by rw [hw4]; exact bel1 w2 _
  have R9 : Hid (RowB w4 w2.heap.size 34 (varr vh Gn vn.length gn G vp.length g')) := by rw [hw4]; exact RowB.new w2 34 _
  have h24 := h2.trans (b4.mono h2.size)
  have HX4 := Lib.hid (HX.out.trans (h24.mono HX.out.size))
  have HB4 := Lib.hid (HB.out.trans (HX4.out.mono HB.out.size))
  have HXV4 : Hid (VI w4 (fun _ => True) (.mk vh vn vp) Gn gn G g') := (ht2.below b4).mono fun _ _ => trivial
  have HV4 := Lib.hid (HV.out.below HX4.out)
  have HU4 := Lib.hid (HU.out.below HX4.out)
  have HS2 : Hid (W.heap.size ≤ w2.heap.size) := Nat.le_trans HX.out.size h2.size
  have e4 := hw4
  simp only [varr] at e4
  clear h2 ht2 b4 hw4 h24 C3
  go_upto_region 4 with fail
  rw [← e4]
  clear e4
  obtain ⟨r, hr⟩ : ∃ r, r = ((.mk vh vn vp) : Vl).right := ⟨_, rfl⟩
  obtain ⟨sm, hsm⟩ : ∃ s, s = ((.mk vh vn vp) : Vl).same (.mk uh un up) := ⟨_, rfl⟩
  have CPR : Hid (∀ w', Below w4.heap.size w4 w' → Calls Tryd.prog 13 #[vv (.mk vh vn vp) Gn gn G g'] w' fun e w2 => e = .returned (.bool r) ∧ Below w'.heap.size w' w2) := fun w' hb => by rw [hr]; exact pright_any _ KV.out.1 w' _ Gn gn G g' (HXV4.out.below hb)
  have CRR : Hid (∀ w', Below w4.heap.size w4 w' → Calls Tryd.prog 14 #[vv (.mk vh vn vp) An cn A c] w' fun e w2 => e = .returned (.bool r) ∧ Below w'.heap.size w' w2) := fun w' hb => by rw [hr]; exact rright_any _ KV.out.1 w' _ An cn A c (HV4.out.below hb)
  have HRR := Lib.hid hr
  simp only [vv, hd_mk, names_mk, parts_mk] at CPR CRR
  have D4 : Below w4.heap.size w4 w4.drew := Below.drew (Below.refl _ _)
  have c9 := R9.out.cell
  have l9 := R9.out.lt
  have R14 := R1.out.below HX4.out R1.out.lt
  have R24 := R2.out.below HX4.out R2.out.lt
  have c4 := R14.cell
  have l4 := R14.lt
  have c5 := R24.cell
  have l5 := R24.lt
  clear hr R14 R24
  refine wp_region_G (S := SG (fun w' => Below w4.heap.size w4 w') 99 (fun _ => True) 99 (fun _ => True)) (by kernel_rfl) ⟨D4, fun _ => trivial, fun _ => trivial⟩ (fun hS => ?_)
  refine wpG_take0 (i := 0) (v := ?v1) rfl (by kernel_rfl) (by kernel_rfl) (by kernel_rfl) (by decide) (by decide) (fun _ _ _ h => h) hS (Or.inl ⟨by rfl, ?hy1⟩) ?rest1
  case hy1 => (intro w' hw; (try dsimp only at hw); have u9 := fun j => (hw.cell (p := ⟨w2.heap.size, j, none⟩) l9).trans (c9 j); have u4 := fun j => (hw.cell (p := ⟨w.heap.size, j, none⟩) l4).trans (c4 j); have u5 := fun j => (hw.cell (p := ⟨w.heap.size + 1, j, none⟩) l5).trans (c5 j); go_simp; try with_reducible rfl)
  replace hS := SG.set (i := 0) (by decide) (by decide) hS
  try simp only [Act.put, List.setIfInBounds_toArray, List.set_cons_zero, List.set_cons_succ]
  refine wpG_take0 (i := 2) (v := ?v2) rfl (by kernel_rfl) (by kernel_rfl) (by kernel_rfl) (by decide) (by decide) (fun _ _ _ h => h) hS (Or.inl ⟨by rfl, ?hy2⟩) ?rest2
  case hy2 => (intro w' hw; (try dsimp only at hw); have u9 := fun j => (hw.cell (p := ⟨w2.heap.size, j, none⟩) l9).trans (c9 j); have u4 := fun j => (hw.cell (p := ⟨w.heap.size, j, none⟩) l4).trans (c4 j); have u5 := fun j => (hw.cell (p := ⟨w.heap.size + 1, j, none⟩) l5).trans (c5 j); go_simp; try with_reducible rfl)
  replace hS := SG.set (i := 2) (by decide) (by decide) hS
  try simp only [Act.put, List.setIfInBounds_toArray, List.set_cons_zero, List.set_cons_succ]
  refine wpG_ready (rs := [1]) (by kernel_rfl) (by simp) ?_
  refine RG.consG rfl rfl (fun K hK => ?_) RG.nil
  go_simp
  refine (CPR.out _ D4).mono ?_
  rintro e x1 ⟨rfl, hx1⟩
  go_wp2_with fail
  have HG1 := Lib.hid (D4.trans (hx1.mono D4.size))
  clear hx1
  refine hK.out _ _ ⟨HG1.out, fun _ => trivial, fun _ => trivial⟩ (fun hS => ?_)
  clear hK K
  try simp only [Act.put, List.setIfInBounds_toArray, List.set_cons_zero, List.set_cons_succ]
  refine wpG_ready (rs := [3]) (by kernel_rfl) (by simp) ?_
  refine RG.consG rfl rfl (fun K hK => ?_) RG.nil
  go_simp
  refine (CRR.out _ HG1.out).mono ?_
  rintro e x2 ⟨rfl, hx2⟩
  go_wp2_with fail
  have HG2 := Lib.hid (HG1.out.trans (hx2.mono HG1.out.size))
  clear hx2
  refine hK.out _ _ ⟨HG2.out, fun _ => trivial, fun _ => trivial⟩ (fun hS => ?_)
  clear hK K
  try simp only [Act.put, List.setIfInBounds_toArray, List.set_cons_zero, List.set_cons_succ]
  refine wpG_take0 (i := 4) (v := ?v3) rfl (by kernel_rfl) (by kernel_rfl) (by kernel_rfl) (by decide) (by decide) (fun _ _ _ h => h) hS (Or.inl ⟨by rfl, ?hy3⟩) ?rest3
  case hy3 => (intro w' hw; (try dsimp only at hw); have u9 := fun j => (hw.cell (p := ⟨w2.heap.size, j, none⟩) l9).trans (c9 j); have u4 := fun j => (hw.cell (p := ⟨w.heap.size, j, none⟩) l4).trans (c4 j); have u5 := fun j => (hw.cell (p := ⟨w.heap.size + 1, j, none⟩) l5).trans (c5 j); go_simp; try with_reducible rfl)
  replace hS := SG.set (i := 4) (by decide) (by decide) hS
  try simp only [Act.put, List.setIfInBounds_toArray, List.set_cons_zero, List.set_cons_succ]
  refine wpG_take0 (i := 5) (v := ?v4) rfl (by kernel_rfl) (by kernel_rfl) (by kernel_rfl) (by decide) (by decide) (fun _ _ _ h => h) hS (Or.inl ⟨by rfl, ?hy4⟩) ?rest4
  case hy4 => (intro w' hw; (try dsimp only at hw); have u9 := fun j => (hw.cell (p := ⟨w2.heap.size, j, none⟩) l9).trans (c9 j); have u4 := fun j => (hw.cell (p := ⟨w.heap.size, j, none⟩) l4).trans (c4 j); have u5 := fun j => (hw.cell (p := ⟨w.heap.size + 1, j, none⟩) l5).trans (c5 j); go_simp; try with_reducible rfl)
  replace hS := SG.set (i := 5) (by decide) (by decide) hS
  try simp only [Act.put, List.setIfInBounds_toArray, List.set_cons_zero, List.set_cons_succ]
  refine wpG_take0 (i := 6) (v := ?v5) rfl (by kernel_rfl) (by kernel_rfl) (by kernel_rfl) (by decide) (by decide) (fun _ _ _ h => h) hS (Or.inl ⟨by rfl, ?hy5⟩) ?rest5
  case hy5 => (intro w' hw; (try dsimp only at hw); have u9 := fun j => (hw.cell (p := ⟨w2.heap.size, j, none⟩) l9).trans (c9 j); have u4 := fun j => (hw.cell (p := ⟨w.heap.size, j, none⟩) l4).trans (c4 j); have u5 := fun j => (hw.cell (p := ⟨w.heap.size + 1, j, none⟩) l5).trans (c5 j); go_simp; try with_reducible rfl)
  replace hS := SG.set (i := 6) (by decide) (by decide) hS
  try simp only [Act.put, List.setIfInBounds_toArray, List.set_cons_zero, List.set_cons_succ]
  refine wpG_take0 (i := 7) (v := ?v6) rfl (by kernel_rfl) (by kernel_rfl) (by kernel_rfl) (by decide) (by decide) (fun _ _ _ h => h) hS (Or.inl ⟨by rfl, ?hy6⟩) ?rest6
  case hy6 => (intro w' hw; (try dsimp only at hw); have u9 := fun j => (hw.cell (p := ⟨w2.heap.size, j, none⟩) l9).trans (c9 j); have u4 := fun j => (hw.cell (p := ⟨w.heap.size, j, none⟩) l4).trans (c4 j); have u5 := fun j => (hw.cell (p := ⟨w.heap.size + 1, j, none⟩) l5).trans (c5 j); go_simp; try with_reducible rfl)
  replace hS := SG.set (i := 7) (by decide) (by decide) hS
  try simp only [Act.put, List.setIfInBounds_toArray, List.set_cons_zero, List.set_cons_succ]
  refine wpG_take0 (i := 10) (v := ?v7) rfl (by kernel_rfl) (by kernel_rfl) (by kernel_rfl) (by decide) (by decide) (fun _ _ _ h => h) hS (Or.inl ⟨by rfl, ?hy7⟩) ?rest7
  case hy7 => (intro w' hw; (try dsimp only at hw); have u9 := fun j => (hw.cell (p := ⟨w2.heap.size, j, none⟩) l9).trans (c9 j); have u4 := fun j => (hw.cell (p := ⟨w.heap.size, j, none⟩) l4).trans (c4 j); have u5 := fun j => (hw.cell (p := ⟨w.heap.size + 1, j, none⟩) l5).trans (c5 j); go_simp; try with_reducible rfl)
  replace hS := SG.set (i := 10) (by decide) (by decide) hS
  try simp only [Act.put, List.setIfInBounds_toArray, List.set_cons_zero, List.set_cons_succ]
  refine wpG_take0 (i := 11) (v := ?v8) rfl (by kernel_rfl) (by kernel_rfl) (by kernel_rfl) (by decide) (by decide) (fun _ _ _ h => h) hS (Or.inl ⟨by rfl, ?hy8⟩) ?rest8
  case hy8 => (intro w' hw; (try dsimp only at hw); have u9 := fun j => (hw.cell (p := ⟨w2.heap.size, j, none⟩) l9).trans (c9 j); have u4 := fun j => (hw.cell (p := ⟨w.heap.size, j, none⟩) l4).trans (c4 j); have u5 := fun j => (hw.cell (p := ⟨w.heap.size + 1, j, none⟩) l5).trans (c5 j); go_simp; try with_reducible rfl)
  replace hS := SG.set (i := 11) (by decide) (by decide) hS
  try simp only [Act.put, List.setIfInBounds_toArray, List.set_cons_zero, List.set_cons_succ]
  refine wpG_ready (rs := [8]) (by kernel_rfl) (by simp) ?_
  refine RG.consG rfl rfl (fun K hK => ?_) RG.nil
  go_simp
  refine (to_any (.mk uh un up) KU.out.1 _ _ Bn dn B d (HU4.out.below HG2.out)).mono ?_
  rintro e x3 ⟨hx3, En, en', E, e', rfl, ht1⟩
  go_wp2_with fail
  have HG3 := Lib.hid (HG2.out.trans (hx3.mono HG2.out.size))
  clear hx3
  refine hK.out _ _ ⟨HG3.out, fun _ => trivial, fun _ => trivial⟩ (fun hS => ?_)
  clear hK K
  try simp only [Act.put, List.setIfInBounds_toArray, List.set_cons_zero, List.set_cons_succ]
  refine wpG_ready (rs := [9]) (by kernel_rfl) (by simp) ?_
  refine RG.consG rfl rfl (fun K hK => ?_) RG.nil
  go_simp
  refine (psm_any KV.out.1 KU.out.1 hsm _ _ _ Gn gn G g' En en' E e' (HXV4.out.below HG3.out) ht1).mono ?_
  rintro e x4 ⟨rfl, hx4⟩
  go_wp2_with fail
  have HG4 := Lib.hid (HG3.out.trans (hx4.mono HG3.out.size))
  clear hx4
  refine hK.out _ _ ⟨HG4.out, fun _ => trivial, fun _ => trivial⟩ (fun hS => ?_)
  clear hK K
  try simp only [Act.put, List.setIfInBounds_toArray, List.set_cons_zero, List.set_cons_succ]
  refine wpG_ready (rs := [12]) (by kernel_rfl) (by simp) ?_
  refine RG.consG rfl rfl (fun K hK => ?_) RG.nil
  go_simp
  refine (rsm_any KV.out.1 KU.out.1 hsm _ _ _ An cn A c Bn dn B d (HV4.out.below HG4.out) (HU4.out.below HG4.out)).mono ?_
  rintro e x5 ⟨rfl, hx5⟩
  go_wp2_with fail
  have HG5 := Lib.hid (HG4.out.trans (hx5.mono HG4.out.size))
  clear hx5
  refine hK.out _ _ ⟨HG5.out, fun _ => trivial, fun _ => trivial⟩ (fun hS => ?_)
  clear hK K
  try simp only [Act.put, List.setIfInBounds_toArray, List.set_cons_zero, List.set_cons_succ]
  refine wpG_take0 (i := 13) (v := ?v9) rfl (by kernel_rfl) (by kernel_rfl) (by kernel_rfl) (by decide) (by decide) (fun _ _ _ h => h) hS (Or.inl ⟨by rfl, ?hy9⟩) ?rest9
  case hy9 => (intro w' hw; (try dsimp only at hw); have u9 := fun j => (hw.cell (p := ⟨w2.heap.size, j, none⟩) l9).trans (c9 j); have u4 := fun j => (hw.cell (p := ⟨w.heap.size, j, none⟩) l4).trans (c4 j); have u5 := fun j => (hw.cell (p := ⟨w.heap.size + 1, j, none⟩) l5).trans (c5 j); go_simp; try with_reducible rfl)
  replace hS := SG.set (i := 13) (by decide) (by decide) hS
  try simp only [Act.put, List.setIfInBounds_toArray, List.set_cons_zero, List.set_cons_succ]
  refine wpG_take0 (i := 14) (v := ?v10) rfl (by kernel_rfl) (by kernel_rfl) (by kernel_rfl) (by decide) (by decide) (fun _ _ _ h => h) hS (Or.inl ⟨by rfl, ?hy10⟩) ?rest10
  case hy10 => (intro w' hw; (try dsimp only at hw); have u9 := fun j => (hw.cell (p := ⟨w2.heap.size, j, none⟩) l9).trans (c9 j); have u4 := fun j => (hw.cell (p := ⟨w.heap.size, j, none⟩) l4).trans (c4 j); have u5 := fun j => (hw.cell (p := ⟨w.heap.size + 1, j, none⟩) l5).trans (c5 j); go_simp; try with_reducible rfl)
  replace hS := SG.set (i := 14) (by decide) (by decide) hS
  try simp only [Act.put, List.setIfInBounds_toArray, List.set_cons_zero, List.set_cons_succ]
  refine wpG_done (by kernel_rfl) ?_ _
  obtain ⟨w5, hw5⟩ : ∃ w5, w5 = x5 := ⟨_, rfl⟩
  rw [← hw5] at HG5 ⊢
  have HX5 := Lib.hid (HX4.out.trans (HG5.out.mono HX4.out.size))
  have HB5 := Lib.hid (HB4.out.trans (HG5.out.mono HB4.out.size))
  have R95 := Lib.hid (R9.out.below HG5.out R9.out.lt)
  have C6 := Lib.hid (CRR.out w5 HG5.out)
  have r1 := (R1.out.below HX5.out R1.out.lt).cell
  have HXV5 := Lib.hid (HXV4.out.below HG5.out)
  clear hS D4 c9 l9 c4 l4 c5 l5 HG1 HG2 HG3 HG4 HG5 hw5 ht1 CPR CRR hsm
  go_wp2_with fail
  refine C6.out.mono ?_
  rintro e w6 ⟨rfl, h6⟩
  have HX6 := Lib.hid (HX5.out.trans (h6.mono HX5.out.size))
  have HB6 := Lib.hid (HB5.out.trans (h6.mono HB5.out.size))
  have R96 := Lib.hid (R95.out.below h6 R95.out.lt)
  have HXV6 := Lib.hid (HXV5.out.below h6)
  clear h6 C6 r1
  cases r with
  | false =>
    skip
    have CA := Lib.hid (awake_any _ (HT.out.step HB6.out))
    go_wp2_with fail
    refine CA.out.mono ?_
    rintro e w9 ⟨rfl, hb9⟩
    have HB9 := Lib.hid (HB6.out.trans (hb9.mono HB6.out.size))
    clear hb9 CA
    go_wp2_with fail
    (first | go_ret | go_ret2)
    exact ⟨rfl, HB9.out⟩
  | true =>
  have HR : Hid (((.mk vh vn vp) : Vl).right = true) := HRR.out.symm
  have hnl : vn.length ≤ 1000001 := by
    have := KV.out.1
    rw [Vl.cnt] at this
    omega
  have hvi := VI_iff.1 HXV6.out
  have C7 := pfield_any w6 vh vn vp nm _ Gn gn G g' hvi.1 hvi.2 hnl HR.out
  rw [field_lk HR.out] at C7
  obtain ⟨o, ho⟩ : ∃ o, o = lk vn vp nm := ⟨_, rfl⟩
  rw [← ho] at C7
  have C7' := C7.mono (R' := fun e w' => Below w6.heap.size w6 w' ∧ ∃ Hn hn H0 h0, e = .returned (.tuple #[vv (o.getD zero) Hn hn H0 h0, .bool o.isSome]) ∧ VI w' (fun _ => True) (o.getD zero) Hn hn H0 h0) (fun e w' hq => by
    refine ⟨hq.1, ?_⟩
    have h2 := hq.2
    cases o with
    | none => exact ⟨none, 0, none, 0, h2, VI_iff.2 ⟨NV.nil _ _ _ _, VV.nil _ _ _ _⟩⟩
    | some p =>
      obtain ⟨Hn, hn, H0, h0, e1, e2⟩ := h2
      exact ⟨Hn, hn, H0, h0, e1, e2⟩)
  have HO := Lib.hid ho
  obtain ⟨a, ha⟩ : ∃ a, a = o.getD zero := ⟨_, rfl⟩
  obtain ⟨b, hb⟩ : ∃ b, b = o.isSome := ⟨_, rfl⟩
  rw [← ha, ← hb] at C7'
  have HA := Lib.hid ha
  have HBO := Lib.hid hb
  have HCA : Hid (a.cnt ≤ 1000001) := by
    unfold Hid
    rw [ha]
    cases o with
    | none => simp [zero, Vl.cnt, cntL]
    | some p =>
      have h1 := cnt_part (t := (.mk vh vn vp)) (lk_mem ho.symm).1
      have h2 := KV.out.1
      show p.cnt ≤ 1000001
      omega
  have HC7 := Lib.hid C7'
  have r9 := R96.out.cell
  obtain ⟨ah, an, ap⟩ := a
  simp only [vv, hd_mk, names_mk, parts_mk] at HC7
  clear C7 C7' hvi hnl ho ha hb
  go_wp2_with fail
  refine HC7.out.mono ?_
  rintro e w7 ⟨h7, Hn, hn, H0, h0, rfl, ht7⟩
  obtain ⟨wp, hwp⟩ : ∃ wp, wp = w7.alloc (.cells (varr ah Hn an.length hn H0 ap.length h0) 34) := ⟨_, rfl⟩
  obtain ⟨V, hVV⟩ : ∃ V, V = wp.alloc (.cells zvc 25) := ⟨_, rfl⟩
  have b7 : Below w7.heap.size w7 wp := by rw [hwp]; exact bel1 w7 _
  have b8 : Below wp.heap.size wp V := by rw [hVV]; exact bel1 wp _
  have hws : wp.heap.size = w7.heap.size + 1 := by rw [hwp]; simp
  have h6V := (h7.trans (b7.mono h7.size)).trans (b8.mono (h7.trans (b7.mono h7.size)).size)
  have R10 : RowB wp w7.heap.size 34 (varr ah Hn an.length hn H0 ap.length h0) := by rw [hwp]; exact RowB.new w7 34 _
  have R10V := Lib.hid (R10.below b8 R10.lt)
  have R12 : Hid (RowB V (w7.heap.size + 1) 25 zvc) := by rw [hVV, ← hws]; exact RowB.new wp 25 _
  have HXVV := Lib.hid (HX6.out.trans (h6V.mono HX6.out.size))
  have HBV := Lib.hid (HB6.out.trans (h6V.mono HB6.out.size))
  have R9V := Lib.hid (R96.out.below h6V R96.out.lt)
  have HAV := Lib.hid ((ht7.low.below b7).below b8)
  have HXPV := Lib.hid (HXV6.out.low.below h6V)
  have HSZ : Hid (W.heap.size ≤ w6.heap.size ∧ w6.heap.size ≤ w7.heap.size ∧ w2.heap.size < w7.heap.size + 1) := by
    have e1 := HX6.out.size
    have e2 := h7.size
    have e3 := b7.size
    have e4 := R96.out.lt
    have e5 := R10.lt
    refine ⟨e1, ?_, ?_⟩ <;> omega
  have eV := hVV
  rw [hwp] at eV
  simp only [varr] at eV
  have r1 := (R1.out.below HXVV.out R1.out.lt).cell
  have HVV := Lib.hid (HV.out.below HXVV.out)
  have HTV : Hid (Tm.TI V (fun g => P2 g ∧ g < W.heap.size) (.mk tk tn tp) Dn en D e0) := ((Tm.TI.keep (Nat.le_refl _) (fun g hg hl => ⟨rfl, hg, hl⟩) _ _ _ _ _ HTY.out : Tm.TI W (fun g => P2 g ∧ g < W.heap.size) (.mk tk tn tp) Dn en D e0)).below HXVV.out
  have R1V := Lib.hid (R1.out.below HXVV.out R1.out.lt)
  have R3V := Lib.hid (R3.out.below HXVV.out R3.out.lt)
  have HND : Hid (vn.Nodup ∧ vn.length = vp.length) := by
    rcases right_cases HR.out with ⟨_, _, h1, h2⟩ | ⟨_, _, h1, h2⟩ | ⟨_, _, _, h1, h2⟩ | ⟨_, _, _, h1, h2⟩
    · rw [h1, h2]; exact ⟨List.nodup_nil, rfl⟩
    · rw [h1, h2]; exact ⟨List.nodup_nil, rfl⟩
    · rw [h1, h2]; exact ⟨List.nodup_nil, rfl⟩
    · exact ⟨rise_nodup h2, h1⟩
  obtain ⟨n, hn⟩ : ∃ n, n = vn.length := ⟨_, rfl⟩
  have HN := Lib.hid hn
  have hn1 : n ≤ 1000001 := by
    have := KV.out.1
    rw [Vl.cnt] at this
    omega
  have HSV := HSZ
  have hwz := HWS.out
  clear h7 ht7 b7 b8 h6V R10 hwp hVV HC7 r9 hws
  go_upto_region 10 with fail
  rw [← eV]
  clear eV
  go_wp2_with fail
  rw [← hn]
  clear hn r1
  go_loopg [13, 71] (n + 1) (fun kx s13 s71 wr => ∃ (i : Nat) (bq : Bool), s71 = .int .i64 i ∧ s13 = .bool bq ∧ n - i ≤ kx ∧ i ≤ n ∧ Hid (Fr (w7.heap.size + 1) V.heap.size V wr) ∧ Hid (∃ q Jn jn J j', (lk (vn.take i) (vp.take i) nm).getD zero = q ∧ bq = (lk (vn.take i) (vp.take i) nm).isSome ∧ RowB wr (w7.heap.size + 1) 25 (varr q.hd Jn q.names.length jn J q.parts.length j') ∧ VI wr (fun g => P g ∧ g < w.heap.size) q Jn jn J j'))
  case atStart => exact ⟨0, false, rfl, rfl, by omega, by omega, Fr.refl _ _ _, zero, none, 0, none, 0, by simp [lk], by simp [lk], R12.out, VI_iff.2 ⟨NV.nil _ _ _ _, VV.nil _ _ _ _⟩⟩
  case round =>
    obtain ⟨i, bq, rfl, rfl, hkx, hin, HFr, HQ⟩ := hrel
    have hsz := HSV.out
    have hwz := HWS.out
    have hbv := HBV.out.size
    have HVr : Hid (VI wr (fun g => P g ∧ g < w.heap.size) (.mk vh vn vp) An cn A c) := HVV.out.keep HFr.out.size fun g hg hl => ⟨HFr.out.block g hl (by have := hg.2; omega), hg⟩
    have R1r := Lib.hid (HFr.out.row R1V.out R1V.out.lt (by omega))
    by_cases hi : i < n
    · have hil : (i : Int) < (n : Int) := by omega
      obtain ⟨x, ex⟩ := get_lt (l := vn) (i := i) (by rw [← HN.out]; exact hi)
      obtain ⟨p, ep⟩ := get_lt (l := vp) (i := i) (by rw [← HND.out.2, ← HN.out]; exact hi)
      have hvi := VI_iff.1 HVr.out
      obtain ⟨g0, o0, hA0, hP0, hg0, y, _⟩ := hvi.1.nth ex
      obtain ⟨g, oo, An2, cn2, A2, c2, hA, hP, hg, hti, z0, z1, z2, z3, z4⟩ := hvi.2.nth ep
      obtain ⟨bb, hbb⟩ : ∃ bb, bb = decide (x = nm) := ⟨_, rfl⟩
      have hxe : (x.toList == nm.toList) = bb := by rw [beq_ba, hbb]
      obtain ⟨j, hj⟩ : ∃ j, j = i + 1 := ⟨_, rfl⟩
      have HHIT : Hid (bb = true → lk (vn.take j) (vp.take j) nm = some p) := fun h => by rw [hj]; exact lk_hit HND.out.1 ex ep (of_decide_eq_true (hbb.symm.trans h))
      have HMISS : Hid (bb = false → lk (vn.take j) (vp.take j) nm = lk (vn.take i) (vp.take i) nm) := fun h => by rw [hj]; exact lk_miss ex ep (of_decide_eq_false (hbb.symm.trans h))
      have im : (i : Int) < (vp.length : Int) := by have h1 := HND.out.2; have h2 := HN.out; omega
      have HIM := Lib.hid im
      have r1 := R1r.out.cell
      have HTI := Lib.hid hti
      have HNL : Hid (vn.length = n) := HN.out.symm
      clear ex ep hvi hP0 hP hbb hti
      cases bb with
      | true =>
        have HH := Lib.hid (HHIT.out (by first | rfl | trivial))
        obtain ⟨q, Jn, jn, J, j', _, _, hrow, _⟩ := HQ.out
        have kT := hrow.cell
        have kTt := hrow.thaw
        obtain ⟨ph, pn, pp⟩ := p
        simp only [hd_mk, names_mk, parts_mk] at z0 z1 z2 z3 z4
        have HROW : Hid (RowB (put5 wr (w7.heap.size + 1) (.int .i64 ph.kind) (.int .i64 ph.n) (.string ph.s) (.slice An2 pn.length cn2) (.slice A2 pp.length c2)) (w7.heap.size + 1) 25 (varr ph An2 pn.length cn2 A2 pp.length c2)) := row_put5 hrow _ _ _ _ _
        have HFN : Hid (Fr (w7.heap.size + 1) V.heap.size V (put5 wr (w7.heap.size + 1) (.int .i64 ph.kind) (.int .i64 ph.n) (.string ph.s) (.slice An2 pn.length cn2) (.slice A2 pp.length c2))) := ((((HFr.out.put 0 _).put 1 _).put 2 _).put 3 _).put 4 _
        have HVN : Hid (VI (put5 wr (w7.heap.size + 1) (.int .i64 ph.kind) (.int .i64 ph.n) (.string ph.s) (.slice An2 pn.length cn2) (.slice A2 pp.length c2)) (fun g => P g ∧ g < w.heap.size) (.mk ph pn pp) An2 cn2 A2 c2) := VI.put5 HTI.out (fun g hg => ⟨hg, by have := hg.2; omega⟩) _ _ _ _ _
        clear HHIT HMISS hrow HQ HTI
        subst hA hA0
        go_wp2_with fail
        go_roundg (n - j)
        case measure => omega
        case rel => exact ⟨j, true, by rw [hj]; go_num, rfl, by omega, by omega, HFN.out, .mk ph pn pp, An2, cn2, A2, c2, by rw [HH.out]; rfl, by rw [HH.out]; rfl, HROW.out, HVN.out⟩
      | false =>
        have HH := Lib.hid (HMISS.out (by first | rfl | trivial))
        have HQN : Hid (∃ q Jn jn J j', (lk (vn.take j) (vp.take j) nm).getD zero = q ∧ bq = (lk (vn.take j) (vp.take j) nm).isSome ∧ RowB wr (w7.heap.size + 1) 25 (varr q.hd Jn q.names.length jn J q.parts.length j') ∧ VI wr (fun g => P g ∧ g < w.heap.size) q Jn jn J j') := by
          unfold Hid
          rw [HH.out]
          exact HQ.out
        clear HHIT HMISS HQ HTI hA
        subst hA0
        clear r1
        go_wp2_with fail
        go_roundg (n - j)
        case measure => omega
        case rel => exact ⟨j, bq, by rw [hj]; go_num, rfl, by omega, by omega, HFr.out, HQN.out⟩
    · have hil : ¬ (i : Int) < (n : Int) := by omega
      obtain rfl : n = i := by omega
      have hq := HQ.out
      rw [List.take_of_length_le (by rw [← HN.out]; exact Nat.le_refl _), List.take_of_length_le (by rw [← HND.out.2, ← HN.out]; exact Nat.le_refl _), ← HO.out, ← HA.out, ← HBO.out] at hq
      obtain ⟨q, Jn, jn, J, j', hqa, hqb, hrow, hvq⟩ := hq
      subst hqa hqb
      have HBW : Hid (Below w.heap.size w wr) := HBV.out.trans (HFr.out.below hbv (by omega))
      have HXV : Hid (VI wr (fun g => True ∧ g < w6.heap.size) (.mk vh vn vp) Gn gn G g') := HXPV.out.keep HFr.out.size fun g hg hl => ⟨HFr.out.block g hl (by have := hg.2; omega), hg⟩
      have HAW : Hid (VI wr (fun g => True ∧ g < w7.heap.size) (.mk ah an ap) Hn hn H0 h0) := HAV.out.keep HFr.out.size fun g hg hl => ⟨HFr.out.block g hl (by have := hg.2; omega), hg⟩
      have HTW : Hid (Tm.TI wr (fun g => P2 g ∧ g < W.heap.size) (.mk tk tn tp) Dn en D e0) := Tm.TI.keep HFr.out.size (fun g hg hl => ⟨HFr.out.block g hl (by have := hg.2; omega), hg⟩) _ _ _ _ _ HTV.out
      have HVW := HVr
      have HWW := Lib.hid hvq
      have R9r := HFr.out.row R9V.out R9V.out.lt (by omega)
      have R3r := HFr.out.row R3V.out R3V.out.lt (by omega)
      have R10r := HFr.out.row R10V.out R10V.out.lt (by omega)
      have c9 := R9r.cell
      have l9 := R9r.lt
      have c4 := R1r.out.cell
      have l4 := R1r.out.lt
      have c6 := R3r.cell
      have l6 := R3r.lt
      have c10 := R10r.cell
      have l10 := R10r.lt
      have c12 := hrow.cell
      have l12 := hrow.lt
      obtain ⟨X, hX⟩ : ∃ X, X = txS (.mk vh vn vp) := ⟨_, rfl⟩
      obtain ⟨F, hF⟩ : ∃ F, F = fitB (.mk vh vn vp) (Tm.Ty.mk tk tn tp).kind (Tm.Ty.mk tk tn tp).names (Tm.Ty.mk tk tn tp).parts.length := ⟨_, rfl⟩
      have HTB := Lib.hid (HT.out.step HBW.out)
      have D16 : Below wr.heap.size wr wr.drew := Below.drew (Below.refl _ _)
      clear hi HQ hrow hvq R9r R3r R10r hsz hwz hbv
      simp only [hd_mk, names_mk, parts_mk] at c12
      go_upto_region 16 with fail
      refine wp_region_G (S := SG (fun w' => Below wr.heap.size wr w') 99 (fun _ => True) 99 (fun _ => True)) (by kernel_rfl) ⟨D16, fun _ => trivial, fun _ => trivial⟩ (fun hS => ?_)
      refine wpG_ready (rs := [0]) (by kernel_rfl) (by simp) ?_
      refine RG.consG rfl rfl (fun K hK => ?_) RG.nil
      go_simp
      refine (awake_any _ (HTB.out.step D16)).mono ?_
      rintro e x1 ⟨rfl, hx1⟩
      go_wp2_with fail
      have HG1 := Lib.hid (D16.trans (hx1.mono D16.size))
      clear hx1
      refine hK.out _ _ ⟨HG1.out, fun _ => trivial, fun _ => trivial⟩ (fun hS => ?_)
      clear hK K
      try simp only [Act.put, List.setIfInBounds_toArray, List.set_cons_zero, List.set_cons_succ]
      refine wpG_take0 (i := 1) (v := ?v11) rfl (by kernel_rfl) (by kernel_rfl) (by kernel_rfl) (by decide) (by decide) (fun _ _ _ h => h) hS (Or.inl ⟨by rfl, ?hy11⟩) ?rest11
      case hy11 => (intro w' hw; (try dsimp only at hw); have u9 := fun j => (hw.cell (p := ⟨w2.heap.size, j, none⟩) l9).trans (c9 j); have u4 := fun j => (hw.cell (p := ⟨w.heap.size, j, none⟩) l4).trans (c4 j); have u6 := fun j => (hw.cell (p := ⟨w.heap.size + 2, j, none⟩) l6).trans (c6 j); have u10 := fun j => (hw.cell (p := ⟨w7.heap.size, j, none⟩) l10).trans (c10 j); have u12 := fun j => (hw.cell (p := ⟨w7.heap.size + 1, j, none⟩) l12).trans (c12 j); go_simp; try with_reducible rfl)
      replace hS := SG.set (i := 1) (by decide) (by decide) hS
      try simp only [Act.put, List.setIfInBounds_toArray, List.set_cons_zero, List.set_cons_succ]
      refine wpG_take0 (i := 2) (v := ?v12) rfl (by kernel_rfl) (by kernel_rfl) (by kernel_rfl) (by decide) (by decide) (fun _ _ _ h => h) hS (Or.inl ⟨by rfl, ?hy12⟩) ?rest12
      case hy12 => (intro w' hw; (try dsimp only at hw); have u9 := fun j => (hw.cell (p := ⟨w2.heap.size, j, none⟩) l9).trans (c9 j); have u4 := fun j => (hw.cell (p := ⟨w.heap.size, j, none⟩) l4).trans (c4 j); have u6 := fun j => (hw.cell (p := ⟨w.heap.size + 2, j, none⟩) l6).trans (c6 j); have u10 := fun j => (hw.cell (p := ⟨w7.heap.size, j, none⟩) l10).trans (c10 j); have u12 := fun j => (hw.cell (p := ⟨w7.heap.size + 1, j, none⟩) l12).trans (c12 j); go_simp; try with_reducible rfl)
      replace hS := SG.set (i := 2) (by decide) (by decide) hS
      try simp only [Act.put, List.setIfInBounds_toArray, List.set_cons_zero, List.set_cons_succ]
      refine wpG_take0 (i := 4) (v := ?v13) rfl (by kernel_rfl) (by kernel_rfl) (by kernel_rfl) (by decide) (by decide) (fun _ _ _ h => h) hS (Or.inl ⟨by rfl, ?hy13⟩) ?rest13
      case hy13 => (intro w' hw; (try dsimp only at hw); have u9 := fun j => (hw.cell (p := ⟨w2.heap.size, j, none⟩) l9).trans (c9 j); have u4 := fun j => (hw.cell (p := ⟨w.heap.size, j, none⟩) l4).trans (c4 j); have u6 := fun j => (hw.cell (p := ⟨w.heap.size + 2, j, none⟩) l6).trans (c6 j); have u10 := fun j => (hw.cell (p := ⟨w7.heap.size, j, none⟩) l10).trans (c10 j); have u12 := fun j => (hw.cell (p := ⟨w7.heap.size + 1, j, none⟩) l12).trans (c12 j); go_simp; try with_reducible rfl)
      replace hS := SG.set (i := 4) (by decide) (by decide) hS
      try simp only [Act.put, List.setIfInBounds_toArray, List.set_cons_zero, List.set_cons_succ]
      refine wpG_ready (rs := [3]) (by kernel_rfl) (by simp) ?_
      refine RG.consG rfl rfl (fun K hK => ?_) RG.nil
      go_simp
      refine (ptx_any HR.out KV.out.1 HRV.out KV.out.2 hX _ _ Gn gn G g' (HXV.out.below HG1.out) (HTB.out.step HG1.out)).mono ?_
      rintro e x2 ⟨rfl, hx2⟩
      go_wp2_with fail
      have HG2 := Lib.hid (HG1.out.trans (hx2.mono HG1.out.size))
      clear hx2
      refine hK.out _ _ ⟨HG2.out, fun _ => trivial, fun _ => trivial⟩ (fun hS => ?_)
      clear hK K
      try simp only [Act.put, List.setIfInBounds_toArray, List.set_cons_zero, List.set_cons_succ]
      refine wpG_ready (rs := [5]) (by kernel_rfl) (by simp) ?_
      refine RG.consG rfl rfl (fun K hK => ?_) RG.nil
      go_simp
      refine (rtx_any HR.out KV.out.1 HRV.out KV.out.2 hX _ _ An cn A c (HVW.out.below HG2.out)).mono ?_
      rintro e x3 ⟨rfl, hx3⟩
      go_wp2_with fail
      have HG3 := Lib.hid (HG2.out.trans (hx3.mono HG2.out.size))
      clear hx3
      refine hK.out _ _ ⟨HG3.out, fun _ => trivial, fun _ => trivial⟩ (fun hS => ?_)
      clear hK K
      try simp only [Act.put, List.setIfInBounds_toArray, List.set_cons_zero, List.set_cons_succ]
      refine wpG_take0 (i := 6) (v := ?v14) rfl (by kernel_rfl) (by kernel_rfl) (by kernel_rfl) (by decide) (by decide) (fun _ _ _ h => h) hS (Or.inl ⟨by rfl, ?hy14⟩) ?rest14
      case hy14 => (intro w' hw; (try dsimp only at hw); have u9 := fun j => (hw.cell (p := ⟨w2.heap.size, j, none⟩) l9).trans (c9 j); have u4 := fun j => (hw.cell (p := ⟨w.heap.size, j, none⟩) l4).trans (c4 j); have u6 := fun j => (hw.cell (p := ⟨w.heap.size + 2, j, none⟩) l6).trans (c6 j); have u10 := fun j => (hw.cell (p := ⟨w7.heap.size, j, none⟩) l10).trans (c10 j); have u12 := fun j => (hw.cell (p := ⟨w7.heap.size + 1, j, none⟩) l12).trans (c12 j); go_simp; try with_reducible rfl)
      replace hS := SG.set (i := 6) (by decide) (by decide) hS
      try simp only [Act.put, List.setIfInBounds_toArray, List.set_cons_zero, List.set_cons_succ]
      refine wpG_take0 (i := 7) (v := ?v15) rfl (by kernel_rfl) (by kernel_rfl) (by kernel_rfl) (by decide) (by decide) (fun _ _ _ h => h) hS (Or.inl ⟨by rfl, ?hy15⟩) ?rest15
      case hy15 => (intro w' hw; (try dsimp only at hw); have u9 := fun j => (hw.cell (p := ⟨w2.heap.size, j, none⟩) l9).trans (c9 j); have u4 := fun j => (hw.cell (p := ⟨w.heap.size, j, none⟩) l4).trans (c4 j); have u6 := fun j => (hw.cell (p := ⟨w.heap.size + 2, j, none⟩) l6).trans (c6 j); have u10 := fun j => (hw.cell (p := ⟨w7.heap.size, j, none⟩) l10).trans (c10 j); have u12 := fun j => (hw.cell (p := ⟨w7.heap.size + 1, j, none⟩) l12).trans (c12 j); go_simp; try with_reducible rfl)
      replace hS := SG.set (i := 7) (by decide) (by decide) hS
      try simp only [Act.put, List.setIfInBounds_toArray, List.set_cons_zero, List.set_cons_succ]
      refine wpG_take0 (i := 8) (v := ?v16) rfl (by kernel_rfl) (by kernel_rfl) (by kernel_rfl) (by decide) (by decide) (fun _ _ _ h => h) hS (Or.inl ⟨by rfl, ?hy16⟩) ?rest16
      case hy16 => (intro w' hw; (try dsimp only at hw); have u9 := fun j => (hw.cell (p := ⟨w2.heap.size, j, none⟩) l9).trans (c9 j); have u4 := fun j => (hw.cell (p := ⟨w.heap.size, j, none⟩) l4).trans (c4 j); have u6 := fun j => (hw.cell (p := ⟨w.heap.size + 2, j, none⟩) l6).trans (c6 j); have u10 := fun j => (hw.cell (p := ⟨w7.heap.size, j, none⟩) l10).trans (c10 j); have u12 := fun j => (hw.cell (p := ⟨w7.heap.size + 1, j, none⟩) l12).trans (c12 j); go_simp; try with_reducible rfl)
      replace hS := SG.set (i := 8) (by decide) (by decide) hS
      try simp only [Act.put, List.setIfInBounds_toArray, List.set_cons_zero, List.set_cons_succ]
      refine wpG_take0 (i := 9) (v := ?v17) rfl (by kernel_rfl) (by kernel_rfl) (by kernel_rfl) (by decide) (by decide) (fun _ _ _ h => h) hS (Or.inl ⟨by rfl, ?hy17⟩) ?rest17
      case hy17 => (intro w' hw; (try dsimp only at hw); have u9 := fun j => (hw.cell (p := ⟨w2.heap.size, j, none⟩) l9).trans (c9 j); have u4 := fun j => (hw.cell (p := ⟨w.heap.size, j, none⟩) l4).trans (c4 j); have u6 := fun j => (hw.cell (p := ⟨w.heap.size + 2, j, none⟩) l6).trans (c6 j); have u10 := fun j => (hw.cell (p := ⟨w7.heap.size, j, none⟩) l10).trans (c10 j); have u12 := fun j => (hw.cell (p := ⟨w7.heap.size + 1, j, none⟩) l12).trans (c12 j); go_simp; try with_reducible rfl)
      replace hS := SG.set (i := 9) (by decide) (by decide) hS
      try simp only [Act.put, List.setIfInBounds_toArray, List.set_cons_zero, List.set_cons_succ]
      refine wpG_take0 (i := 10) (v := ?v18) rfl (by kernel_rfl) (by kernel_rfl) (by kernel_rfl) (by decide) (by decide) (fun _ _ _ h => h) hS (Or.inl ⟨by rfl, ?hy18⟩) ?rest18
      case hy18 => (intro w' hw; (try dsimp only at hw); have u9 := fun j => (hw.cell (p := ⟨w2.heap.size, j, none⟩) l9).trans (c9 j); have u4 := fun j => (hw.cell (p := ⟨w.heap.size, j, none⟩) l4).trans (c4 j); have u6 := fun j => (hw.cell (p := ⟨w.heap.size + 2, j, none⟩) l6).trans (c6 j); have u10 := fun j => (hw.cell (p := ⟨w7.heap.size, j, none⟩) l10).trans (c10 j); have u12 := fun j => (hw.cell (p := ⟨w7.heap.size + 1, j, none⟩) l12).trans (c12 j); go_simp; try with_reducible rfl)
      replace hS := SG.set (i := 10) (by decide) (by decide) hS
      try simp only [Act.put, List.setIfInBounds_toArray, List.set_cons_zero, List.set_cons_succ]
      refine wpG_take0 (i := 12) (v := ?v19) rfl (by kernel_rfl) (by kernel_rfl) (by kernel_rfl) (by decide) (by decide) (fun _ _ _ h => h) hS (Or.inl ⟨by rfl, ?hy19⟩) ?rest19
      case hy19 => (intro w' hw; (try dsimp only at hw); have u9 := fun j => (hw.cell (p := ⟨w2.heap.size, j, none⟩) l9).trans (c9 j); have u4 := fun j => (hw.cell (p := ⟨w.heap.size, j, none⟩) l4).trans (c4 j); have u6 := fun j => (hw.cell (p := ⟨w.heap.size + 2, j, none⟩) l6).trans (c6 j); have u10 := fun j => (hw.cell (p := ⟨w7.heap.size, j, none⟩) l10).trans (c10 j); have u12 := fun j => (hw.cell (p := ⟨w7.heap.size + 1, j, none⟩) l12).trans (c12 j); go_simp; try with_reducible rfl)
      replace hS := SG.set (i := 12) (by decide) (by decide) hS
      try simp only [Act.put, List.setIfInBounds_toArray, List.set_cons_zero, List.set_cons_succ]
      refine wpG_take0 (i := 13) (v := ?v20) rfl (by kernel_rfl) (by kernel_rfl) (by kernel_rfl) (by decide) (by decide) (fun _ _ _ h => h) hS (Or.inl ⟨by rfl, ?hy20⟩) ?rest20
      case hy20 => (intro w' hw; (try dsimp only at hw); have u9 := fun j => (hw.cell (p := ⟨w2.heap.size, j, none⟩) l9).trans (c9 j); have u4 := fun j => (hw.cell (p := ⟨w.heap.size, j, none⟩) l4).trans (c4 j); have u6 := fun j => (hw.cell (p := ⟨w.heap.size + 2, j, none⟩) l6).trans (c6 j); have u10 := fun j => (hw.cell (p := ⟨w7.heap.size, j, none⟩) l10).trans (c10 j); have u12 := fun j => (hw.cell (p := ⟨w7.heap.size + 1, j, none⟩) l12).trans (c12 j); go_simp; try with_reducible rfl)
      replace hS := SG.set (i := 13) (by decide) (by decide) hS
      try simp only [Act.put, List.setIfInBounds_toArray, List.set_cons_zero, List.set_cons_succ]
      refine wpG_ready (rs := [11]) (by kernel_rfl) (by simp) ?_
      refine RG.consG rfl rfl (fun K hK => ?_) RG.nil
      go_simp
      refine (pft_any HR.out KV.out.1 hF _ _ _ Gn gn G g' (HXV.out.below HG3.out) Dn en D e0 KT.out (HTW.out.below HG3.out)).mono ?_
      rintro e x4 ⟨rfl, hx4⟩
      go_wp2_with fail
      have HG4 := Lib.hid (HG3.out.trans (hx4.mono HG3.out.size))
      clear hx4
      refine hK.out _ _ ⟨HG4.out, fun _ => trivial, fun _ => trivial⟩ (fun hS => ?_)
      clear hK K
      try simp only [Act.put, List.setIfInBounds_toArray, List.set_cons_zero, List.set_cons_succ]
      refine wpG_ready (rs := [14]) (by kernel_rfl) (by simp) ?_
      refine RG.consG rfl rfl (fun K hK => ?_) RG.nil
      go_simp
      refine (rft_any HR.out KV.out.1 hF _ _ _ An cn A c (HVW.out.below HG4.out) Dn en D e0 KT.out (HTW.out.below HG4.out)).mono ?_
      rintro e x5 ⟨rfl, hx5⟩
      go_wp2_with fail
      have HG5 := Lib.hid (HG4.out.trans (hx5.mono HG4.out.size))
      clear hx5
      refine hK.out _ _ ⟨HG5.out, fun _ => trivial, fun _ => trivial⟩ (fun hS => ?_)
      clear hK K
      try simp only [Act.put, List.setIfInBounds_toArray, List.set_cons_zero, List.set_cons_succ]
      refine wpG_take0 (i := 15) (v := ?v21) rfl (by kernel_rfl) (by kernel_rfl) (by kernel_rfl) (by decide) (by decide) (fun _ _ _ h => h) hS (Or.inl ⟨by rfl, ?hy21⟩) ?rest21
      case hy21 => (intro w' hw; (try dsimp only at hw); have u9 := fun j => (hw.cell (p := ⟨w2.heap.size, j, none⟩) l9).trans (c9 j); have u4 := fun j => (hw.cell (p := ⟨w.heap.size, j, none⟩) l4).trans (c4 j); have u6 := fun j => (hw.cell (p := ⟨w.heap.size + 2, j, none⟩) l6).trans (c6 j); have u10 := fun j => (hw.cell (p := ⟨w7.heap.size, j, none⟩) l10).trans (c10 j); have u12 := fun j => (hw.cell (p := ⟨w7.heap.size + 1, j, none⟩) l12).trans (c12 j); go_simp; try with_reducible rfl)
      replace hS := SG.set (i := 15) (by decide) (by decide) hS
      try simp only [Act.put, List.setIfInBounds_toArray, List.set_cons_zero, List.set_cons_succ]
      refine wpG_take0 (i := 16) (v := ?v22) rfl (by kernel_rfl) (by kernel_rfl) (by kernel_rfl) (by decide) (by decide) (fun _ _ _ h => h) hS (Or.inl ⟨by rfl, ?hy22⟩) ?rest22
      case hy22 => (intro w' hw; (try dsimp only at hw); have u9 := fun j => (hw.cell (p := ⟨w2.heap.size, j, none⟩) l9).trans (c9 j); have u4 := fun j => (hw.cell (p := ⟨w.heap.size, j, none⟩) l4).trans (c4 j); have u6 := fun j => (hw.cell (p := ⟨w.heap.size + 2, j, none⟩) l6).trans (c6 j); have u10 := fun j => (hw.cell (p := ⟨w7.heap.size, j, none⟩) l10).trans (c10 j); have u12 := fun j => (hw.cell (p := ⟨w7.heap.size + 1, j, none⟩) l12).trans (c12 j); go_simp; try with_reducible rfl)
      replace hS := SG.set (i := 16) (by decide) (by decide) hS
      try simp only [Act.put, List.setIfInBounds_toArray, List.set_cons_zero, List.set_cons_succ]
      refine wpG_take0 (i := 17) (v := ?v23) rfl (by kernel_rfl) (by kernel_rfl) (by kernel_rfl) (by decide) (by decide) (fun _ _ _ h => h) hS (Or.inl ⟨by rfl, ?hy23⟩) ?rest23
      case hy23 => (intro w' hw; (try dsimp only at hw); have u9 := fun j => (hw.cell (p := ⟨w2.heap.size, j, none⟩) l9).trans (c9 j); have u4 := fun j => (hw.cell (p := ⟨w.heap.size, j, none⟩) l4).trans (c4 j); have u6 := fun j => (hw.cell (p := ⟨w.heap.size + 2, j, none⟩) l6).trans (c6 j); have u10 := fun j => (hw.cell (p := ⟨w7.heap.size, j, none⟩) l10).trans (c10 j); have u12 := fun j => (hw.cell (p := ⟨w7.heap.size + 1, j, none⟩) l12).trans (c12 j); go_simp; try with_reducible rfl)
      replace hS := SG.set (i := 17) (by decide) (by decide) hS
      try simp only [Act.put, List.setIfInBounds_toArray, List.set_cons_zero, List.set_cons_succ]
      refine wpG_take0 (i := 18) (v := ?v24) rfl (by kernel_rfl) (by kernel_rfl) (by kernel_rfl) (by decide) (by decide) (fun _ _ _ h => h) hS (Or.inl ⟨by rfl, ?hy24⟩) ?rest24
      case hy24 => (intro w' hw; (try dsimp only at hw); have u9 := fun j => (hw.cell (p := ⟨w2.heap.size, j, none⟩) l9).trans (c9 j); have u4 := fun j => (hw.cell (p := ⟨w.heap.size, j, none⟩) l4).trans (c4 j); have u6 := fun j => (hw.cell (p := ⟨w.heap.size + 2, j, none⟩) l6).trans (c6 j); have u10 := fun j => (hw.cell (p := ⟨w7.heap.size, j, none⟩) l10).trans (c10 j); have u12 := fun j => (hw.cell (p := ⟨w7.heap.size + 1, j, none⟩) l12).trans (c12 j); go_simp; try with_reducible rfl)
      replace hS := SG.set (i := 18) (by decide) (by decide) hS
      try simp only [Act.put, List.setIfInBounds_toArray, List.set_cons_zero, List.set_cons_succ]
      refine wpG_take0 (i := 19) (v := ?v25) rfl (by kernel_rfl) (by kernel_rfl) (by kernel_rfl) (by decide) (by decide) (fun _ _ _ h => h) hS (Or.inl ⟨by rfl, ?hy25⟩) ?rest25
      case hy25 => (intro w' hw; (try dsimp only at hw); have u9 := fun j => (hw.cell (p := ⟨w2.heap.size, j, none⟩) l9).trans (c9 j); have u4 := fun j => (hw.cell (p := ⟨w.heap.size, j, none⟩) l4).trans (c4 j); have u6 := fun j => (hw.cell (p := ⟨w.heap.size + 2, j, none⟩) l6).trans (c6 j); have u10 := fun j => (hw.cell (p := ⟨w7.heap.size, j, none⟩) l10).trans (c10 j); have u12 := fun j => (hw.cell (p := ⟨w7.heap.size + 1, j, none⟩) l12).trans (c12 j); go_simp; try with_reducible rfl)
      replace hS := SG.set (i := 19) (by decide) (by decide) hS
      try simp only [Act.put, List.setIfInBounds_toArray, List.set_cons_zero, List.set_cons_succ]
      refine wpG_take0 (i := 20) (v := ?v26) rfl (by kernel_rfl) (by kernel_rfl) (by kernel_rfl) (by decide) (by decide) (fun _ _ _ h => h) hS (Or.inl ⟨by rfl, ?hy26⟩) ?rest26
      case hy26 => (intro w' hw; (try dsimp only at hw); have u9 := fun j => (hw.cell (p := ⟨w2.heap.size, j, none⟩) l9).trans (c9 j); have u4 := fun j => (hw.cell (p := ⟨w.heap.size, j, none⟩) l4).trans (c4 j); have u6 := fun j => (hw.cell (p := ⟨w.heap.size + 2, j, none⟩) l6).trans (c6 j); have u10 := fun j => (hw.cell (p := ⟨w7.heap.size, j, none⟩) l10).trans (c10 j); have u12 := fun j => (hw.cell (p := ⟨w7.heap.size + 1, j, none⟩) l12).trans (c12 j); go_simp; try with_reducible rfl)
      replace hS := SG.set (i := 20) (by decide) (by decide) hS
      try simp only [Act.put, List.setIfInBounds_toArray, List.set_cons_zero, List.set_cons_succ]
      refine wpG_take0 (i := 21) (v := ?v27) rfl (by kernel_rfl) (by kernel_rfl) (by kernel_rfl) (by decide) (by decide) (fun _ _ _ h => h) hS (Or.inl ⟨by rfl, ?hy27⟩) ?rest27
      case hy27 => (intro w' hw; (try dsimp only at hw); have u9 := fun j => (hw.cell (p := ⟨w2.heap.size, j, none⟩) l9).trans (c9 j); have u4 := fun j => (hw.cell (p := ⟨w.heap.size, j, none⟩) l4).trans (c4 j); have u6 := fun j => (hw.cell (p := ⟨w.heap.size + 2, j, none⟩) l6).trans (c6 j); have u10 := fun j => (hw.cell (p := ⟨w7.heap.size, j, none⟩) l10).trans (c10 j); have u12 := fun j => (hw.cell (p := ⟨w7.heap.size + 1, j, none⟩) l12).trans (c12 j); go_simp; try with_reducible rfl)
      replace hS := SG.set (i := 21) (by decide) (by decide) hS
      try simp only [Act.put, List.setIfInBounds_toArray, List.set_cons_zero, List.set_cons_succ]
      refine wpG_take0 (i := 22) (v := ?v28) rfl (by kernel_rfl) (by kernel_rfl) (by kernel_rfl) (by decide) (by decide) (fun _ _ _ h => h) hS (Or.inl ⟨by rfl, ?hy28⟩) ?rest28
      case hy28 => (intro w' hw; (try dsimp only at hw); have u9 := fun j => (hw.cell (p := ⟨w2.heap.size, j, none⟩) l9).trans (c9 j); have u4 := fun j => (hw.cell (p := ⟨w.heap.size, j, none⟩) l4).trans (c4 j); have u6 := fun j => (hw.cell (p := ⟨w.heap.size + 2, j, none⟩) l6).trans (c6 j); have u10 := fun j => (hw.cell (p := ⟨w7.heap.size, j, none⟩) l10).trans (c10 j); have u12 := fun j => (hw.cell (p := ⟨w7.heap.size + 1, j, none⟩) l12).trans (c12 j); go_simp; try with_reducible rfl)
      replace hS := SG.set (i := 22) (by decide) (by decide) hS
      try simp only [Act.put, List.setIfInBounds_toArray, List.set_cons_zero, List.set_cons_succ]
      refine wpG_take0 (i := 23) (v := ?v29) rfl (by kernel_rfl) (by kernel_rfl) (by kernel_rfl) (by decide) (by decide) (fun _ _ _ h => h) hS (Or.inl ⟨by rfl, ?hy29⟩) ?rest29
      case hy29 => (intro w' hw; (try dsimp only at hw); have u9 := fun j => (hw.cell (p := ⟨w2.heap.size, j, none⟩) l9).trans (c9 j); have u4 := fun j => (hw.cell (p := ⟨w.heap.size, j, none⟩) l4).trans (c4 j); have u6 := fun j => (hw.cell (p := ⟨w.heap.size + 2, j, none⟩) l6).trans (c6 j); have u10 := fun j => (hw.cell (p := ⟨w7.heap.size, j, none⟩) l10).trans (c10 j); have u12 := fun j => (hw.cell (p := ⟨w7.heap.size + 1, j, none⟩) l12).trans (c12 j); go_simp; try with_reducible rfl)
      replace hS := SG.set (i := 23) (by decide) (by decide) hS
      try simp only [Act.put, List.setIfInBounds_toArray, List.set_cons_zero, List.set_cons_succ]
      refine wpG_take0 (i := 25) (v := ?v30) rfl (by kernel_rfl) (by kernel_rfl) (by kernel_rfl) (by decide) (by decide) (fun _ _ _ h => h) hS (Or.inl ⟨by rfl, ?hy30⟩) ?rest30
      case hy30 => (intro w' hw; (try dsimp only at hw); have u9 := fun j => (hw.cell (p := ⟨w2.heap.size, j, none⟩) l9).trans (c9 j); have u4 := fun j => (hw.cell (p := ⟨w.heap.size, j, none⟩) l4).trans (c4 j); have u6 := fun j => (hw.cell (p := ⟨w.heap.size + 2, j, none⟩) l6).trans (c6 j); have u10 := fun j => (hw.cell (p := ⟨w7.heap.size, j, none⟩) l10).trans (c10 j); have u12 := fun j => (hw.cell (p := ⟨w7.heap.size + 1, j, none⟩) l12).trans (c12 j); go_simp; try with_reducible rfl)
      replace hS := SG.set (i := 25) (by decide) (by decide) hS
      try simp only [Act.put, List.setIfInBounds_toArray, List.set_cons_zero, List.set_cons_succ]
      refine wpG_ready (rs := [24]) (by kernel_rfl) (by simp) ?_
      refine RG.consG rfl rfl (fun K hK => ?_) RG.nil
      go_simp
      refine (from_any (.mk ah an ap) HCA.out _ _ Hn hn H0 h0 (HAW.out.below HG5.out)).mono ?_
      rintro e x6 ⟨hx6, En, en', E, e', rfl, ht1⟩
      go_wp2_with fail
      have HG6 := Lib.hid (HG5.out.trans (hx6.mono HG5.out.size))
      clear hx6
      refine hK.out _ _ ⟨HG6.out, fun _ => trivial, fun _ => trivial⟩ (fun hS => ?_)
      clear hK K
      try simp only [Act.put, List.setIfInBounds_toArray, List.set_cons_zero, List.set_cons_succ]
      refine wpG_ready (rs := [26]) (by kernel_rfl) (by simp) ?_
      refine RG.consG rfl rfl (fun K hK => ?_) RG.nil
      go_simp
      refine (rsame_one (.mk ah an ap) HCA.out (.mk ah an ap) HCA.out _ _ _ En en' E e' Jn jn J j' ht1 (HWW.out.below HG6.out)).mono ?_
      rintro e x7 ⟨rfl, hx7⟩
      go_wp2_with fail
      have HG7 := Lib.hid (HG6.out.trans (hx7.mono HG6.out.size))
      clear hx7
      refine hK.out _ _ ⟨HG7.out, fun _ => trivial, fun _ => trivial⟩ (fun hS => ?_)
      clear hK K
      try simp only [Act.put, List.setIfInBounds_toArray, List.set_cons_zero, List.set_cons_succ]
      refine wpG_take0 (i := 27) (v := ?v31) rfl (by kernel_rfl) (by kernel_rfl) (by kernel_rfl) (by decide) (by decide) (fun _ _ _ h => h) hS (Or.inl ⟨by rfl, ?hy31⟩) ?rest31
      case hy31 => (intro w' hw; (try dsimp only at hw); have u9 := fun j => (hw.cell (p := ⟨w2.heap.size, j, none⟩) l9).trans (c9 j); have u4 := fun j => (hw.cell (p := ⟨w.heap.size, j, none⟩) l4).trans (c4 j); have u6 := fun j => (hw.cell (p := ⟨w.heap.size + 2, j, none⟩) l6).trans (c6 j); have u10 := fun j => (hw.cell (p := ⟨w7.heap.size, j, none⟩) l10).trans (c10 j); have u12 := fun j => (hw.cell (p := ⟨w7.heap.size + 1, j, none⟩) l12).trans (c12 j); go_simp; try with_reducible rfl)
      replace hS := SG.set (i := 27) (by decide) (by decide) hS
      try simp only [Act.put, List.setIfInBounds_toArray, List.set_cons_zero, List.set_cons_succ]
      refine wpG_take0 (i := 28) (v := ?v32) rfl (by kernel_rfl) (by kernel_rfl) (by kernel_rfl) (by decide) (by decide) (fun _ _ _ h => h) hS (Or.inl ⟨by rfl, ?hy32⟩) ?rest32
      case hy32 => (intro w' hw; (try dsimp only at hw); have u9 := fun j => (hw.cell (p := ⟨w2.heap.size, j, none⟩) l9).trans (c9 j); have u4 := fun j => (hw.cell (p := ⟨w.heap.size, j, none⟩) l4).trans (c4 j); have u6 := fun j => (hw.cell (p := ⟨w.heap.size + 2, j, none⟩) l6).trans (c6 j); have u10 := fun j => (hw.cell (p := ⟨w7.heap.size, j, none⟩) l10).trans (c10 j); have u12 := fun j => (hw.cell (p := ⟨w7.heap.size + 1, j, none⟩) l12).trans (c12 j); go_simp; try with_reducible rfl)
      replace hS := SG.set (i := 28) (by decide) (by decide) hS
      try simp only [Act.put, List.setIfInBounds_toArray, List.set_cons_zero, List.set_cons_succ]
      refine wpG_done (by kernel_rfl) ?_ _
      clear hS
      go_wp2_with fail
      (first | go_ret | go_ret2)
      exact ⟨rfl, HBW.out.trans (HG7.out.mono HBW.out.size)⟩
end Vm
end Go.Proofs.YtbjlhdjcdinmhaaDoor
