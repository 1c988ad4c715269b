/- Contracts: a type's twin. -/
import Derived.Test.YtifkjngclkklfaaGreatDoorMHh
import Derived.Test.YtifkjngclkklfaaGreatDoorMGw
import Derived.Test.YtifkjngclkklfaaGreatDoorRelateTopsWalk
namespace Go.Proofs.YtifkjngclkklfaaGreatDoor
open Go.RowKit Go.Op
namespace Tm
theorem take_set3 {cur : Array Value} {n i : Nat} {c1 c3 : List Value} {x0 x1 x2 : Value} (h : cur.toList.take n = c1 ++ x0 :: x1 :: x2 :: c3) (hl : c1.length = i) (y0 y1 y2 : Value) :
    (((cur.setIfInBounds i y0).setIfInBounds (i + 1) y1).setIfInBounds (i + 2) y2).toList.take n = c1 ++ y0 :: y1 :: y2 :: c3 := by
  rw [Array.toList_setIfInBounds, Array.toList_setIfInBounds, Array.toList_setIfInBounds, List.take_set, List.take_set, List.take_set, h]
  subst hl
  rw [List.set_append_right _ _ (Nat.le_refl _), List.set_append_right _ _ (by omega), List.set_append_right _ _ (by omega), Nat.sub_self, show c1.length + 1 - c1.length = 1 by omega, show c1.length + 2 - c1.length = 2 by omega]
  rfl
/-- How far a twin's parts are: those ahead of i are new ones; G: the block of all. -/
structure TW (B0 : Nat) (P : Nat → Prop) (ps : List Ty) (G cap i : Nat) (wr : World) (cur : Array Value) (c1 c2 : List Value) : Prop where
  row : RowB wr G 25 cur
  cells : cur.toList.take (ps.length * 3) = c1 ++ c2
  new : TL wr (fun g => B0 + 2 ≤ g ∧ g ≠ G) (ps.take i) c1
  old : TL wr (fun g => P g ∧ g < B0) (ps.drop i) c2
  hi : i ≤ ps.length
  hG : B0 + 2 ≤ G
section
variable {B0 G cap i : Nat} {P : Nat → Prop} {ps : List Ty} {wr w3 : World} {cur : Array Value} {c1 c2 : List Value} {p : Ty}
theorem TW.len (h : TW B0 P ps G cap i wr cur c1 c2) : c1.length = i * 3 := by
  have := TL.len _ _ h.new
  rw [List.length_take, Nat.min_eq_left h.hi] at this
  exact this
theorem TW.part (h : TW B0 P ps G cap i wr cur c1 c2) (e : ps[i]? = some p) : ∃ An cn A c c3, c2 = tcs p An cn A c ++ c3 ∧ TI wr (fun g => P g ∧ g < B0) p An cn A c ∧ TL wr (fun g => P g ∧ g < B0) (ps.drop (i + 1)) c3 ∧
    wr.cell? ⟨G, i * 3, none⟩ = some (.int .i64 p.kind) ∧ wr.cell? ⟨G, i * 3 + 1, none⟩ = some (.slice An p.names.length cn) ∧ wr.cell? ⟨G, i * 3 + 2, none⟩ = some (.slice A p.parts.length c) := by
  have hd : ps.drop i = p :: ps.drop (i + 1) := by
    have hlt := (List.getElem?_eq_some_iff.1 e)
    obtain ⟨h1, h2⟩ := hlt
    rw [List.drop_eq_getElem_cons h1, h2]
  have ho := h.old
  rw [hd, TL] at ho
  obtain ⟨An, cn, A, c, c3, e2, h1, h2⟩ := ho
  refine ⟨An, cn, A, c, c3, e2, h1, h2, ?_⟩
  have hlt := (List.getElem?_eq_some_iff.1 e).1
  have key : ∀ j, j < 3 → wr.cell? ⟨G, i * 3 + j, none⟩ = (tcs p An cn A c)[j]? := fun j hj => by
    rw [h.row.cell, ← Array.getElem?_toList]
    have e3 : (cur.toList.take (ps.length * 3))[i * 3 + j]? = cur.toList[i * 3 + j]? := by rw [List.getElem?_take, if_pos (by omega)]
    rw [← e3, h.cells, List.getElem?_append_right (by rw [h.len]; omega), h.len, e2, show i * 3 + j - i * 3 = j by omega, List.getElem?_append_left (by simpa using hj)]
  exact ⟨key 0 (by omega), key 1 (by omega), key 2 (by omega)⟩
theorem TW.step (h : TW B0 P ps G cap i wr cur c1 c2) (e : ps[i]? = some p) (hb : Below wr.heap.size wr w3) {An : Option Addr} {cn : Nat} {A : Option Addr} {c : Nat} {c3 : List Value} {Bn : Option Addr} {dn : Nat} {B : Option Addr} {d : Nat} (e2 : c2 = tcs p Bn dn B d ++ c3)
    (h3 : TL wr (fun g => P g ∧ g < B0) (ps.drop (i + 1)) c3) (ht : TI w3 (fun g => wr.heap.size ≤ g) p An cn A c) :
    TW B0 P ps G cap (i + 1) (((w3.setCell ⟨G, i * 3, none⟩ (.int .i64 p.kind)).setCell ⟨G, i * 3 + 1, none⟩ (.slice An p.names.length cn)).setCell ⟨G, i * 3 + 2, none⟩ (.slice A p.parts.length c))
      (((cur.setIfInBounds (i * 3) (.int .i64 p.kind)).setIfInBounds (i * 3 + 1) (.slice An p.names.length cn)).setIfInBounds (i * 3 + 2) (.slice A p.parts.length c)) (c1 ++ tcs p An cn A c) c3 := by
  have hlt := (List.getElem?_eq_some_iff.1 e).1
  have hG := h.row.lt
  have hGG := h.hG
  have hblk : ∀ g, g ≠ G → (((w3.setCell ⟨G, i * 3, none⟩ (.int .i64 p.kind)).setCell ⟨G, i * 3 + 1, none⟩ (.slice An p.names.length cn)).setCell ⟨G, i * 3 + 2, none⟩ (.slice A p.parts.length c)).heap[g]? = w3.heap[g]? := fun g hg => by
    rw [Below.heap_setCell _ _ _ _ hg, Below.heap_setCell _ _ _ _ hg, Below.heap_setCell _ _ _ _ hg]
  have hsz : w3.heap.size ≤ (((w3.setCell ⟨G, i * 3, none⟩ (.int .i64 p.kind)).setCell ⟨G, i * 3 + 1, none⟩ (.slice An p.names.length cn)).setCell ⟨G, i * 3 + 2, none⟩ (.slice A p.parts.length c)).heap.size := by simp [World.setCell]
  refine ⟨((((h.row.below hb hG).put (i * 3) _).put (i * 3 + 1) _).put (i * 3 + 2) _), ?_, ?_, ?_, hlt, hGG⟩
  · have := take_set3 (x0 := .int .i64 p.kind) (x1 := .slice Bn p.names.length dn) (x2 := .slice B p.parts.length d) (c3 := c3) (h.cells.trans (by rw [e2]; rfl)) h.len (.int .i64 p.kind) (.slice An p.names.length cn) (.slice A p.parts.length c)
    rw [this]
    simp
  · rw [List.take_add_one, e]
    refine TL.app _ _ (TL.keep (Nat.le_trans hb.size hsz) (fun g hg hl => ⟨(hblk g hg.2).trans (hb.block g hl), hg⟩) _ _ h.new) (TL.one (ht.keep hsz fun g hg hl => ⟨hblk g (by omega), by omega, by omega⟩))
  · exact TL.keep (Nat.le_trans hb.size hsz) (fun g hg hl => ⟨(hblk g (by have := hg.2; omega)).trans (hb.block g hl), hg⟩) _ _ h3
theorem TW.fin (h : TW B0 P ps G cap ps.length wr cur c1 c2) (hc : ps.length ≤ cap) : TV wr (fun g => B0 + 2 ≤ g) ps (some ⟨G, 0, none⟩) cap := by
  have ho := h.old
  rw [List.drop_length, TL] at ho
  have hn := h.new
  rw [List.take_length] at hn
  refine ⟨hc, fun _ => ⟨G, 0, c1, rfl, h.hG, h.row.lt, fun j u hu => ?_, TL.keep (Nat.le_refl _) (fun g hg _ => ⟨rfl, hg.1⟩) _ _ hn⟩⟩
  have hj := (List.getElem?_eq_some_iff.1 hu).1
  have hl := h.len
  rw [Nat.zero_add, h.row.cell, ← Array.getElem?_toList]
  have e3 : (cur.toList.take (ps.length * 3))[j]? = cur.toList[j]? := by rw [List.getElem?_take, if_pos (by omega)]
  rw [← e3, h.cells, ho, List.append_nil]
  exact hu
theorem TW.below (h : TW B0 P ps G cap i wr cur c1 c2) (hb : Below wr.heap.size wr w3) : TW B0 P ps G cap i w3 cur c1 c2 :=
  ⟨h.row.below hb h.row.lt, h.cells, h.new.below hb, h.old.below hb, h.hi, h.hG⟩
end
/-- What is known of parts: their twins. -/
def TwIH (ps : List Ty) : Prop := ∀ p ∈ ps, ∀ (w : World) (P : Nat → Prop) (An : Option Addr) (cn : Nat) (A : Option Addr) (c : Nat), TI w P p An cn A c → Calls Tryz.prog 38 #[tv p An cn A c] w (MadeQ (fun g => w.heap.size ≤ g) p w)
set_option maxHeartbeats 16000000 in
set_option maxRecDepth 100000 in
theorem twin_step (k : Int) (ns : List ByteArray) (ps : List Ty) (hnl : ns.length ≤ 1000001) (hpl : ps.length ≤ 1000001) (IH : TwIH ps) (w : World) (P : Nat → Prop) (An : Option Addr) (cn : Nat) (A : Option Addr) (c : Nat) (hN : NV w P ns An cn) (hT : TV w P ps A c) :
    Calls Tryz.prog 38 #[.agg #[.int .i64 k, .slice An ns.length cn, .slice A ps.length c]] w (MadeQ (fun g => w.heap.size ≤ g) (.mk k ns ps) w) := by
  replace hN := hN.low
  replace hT := hT.low
  have b1 := bel1 w (.cells (tarr k An ns.length cn A ps.length c) 25)
  obtain ⟨w1, h1⟩ : ∃ w1, w1 = w.alloc (.cells (tarr k An ns.length cn A ps.length c) 25) := ⟨_, rfl⟩
  have s1 : w1.heap.size = w.heap.size + 1 := by rw [h1]; simp
  have R1 : RowB w1 w.heap.size 25 (tarr k An ns.length cn A ps.length c) := by rw [h1]; exact RowB.new w 25 _
  rw [← h1] at b1
  obtain ⟨w2, h2⟩ : ∃ w2, w2 = w1.alloc (.cells tzc 25) := ⟨_, rfl⟩
  have b2 : Below w1.heap.size w1 w2 := by rw [h2]; exact bel1 w1 _
  have s2 : w2.heap.size = w.heap.size + 2 := by rw [h2]; simp [s1]
  have R2 : RowB w2 (w.heap.size + 1) 25 tzc := by rw [h2, ← s1]; exact RowB.new w1 25 _
  have b12 := b1.trans (b2.mono b1.size)
  have e2 : w2 = (w.alloc (.cells (tarr k An ns.length cn A ps.length c) 25)).alloc (.cells tzc 25) := by rw [h2, h1]
  have RT := Lib.hid (R1.below b2 R1.lt)
  have RR := Lib.hid R2
  have HB := Lib.hid b12
  have HNV := Lib.hid (hN.below b12)
  have HTV := Lib.hid (hT.below b12)
  have HS2 := Lib.hid s2
  have HI := Lib.hid IH
  obtain ⟨m, hm⟩ : ∃ m, m = ns.length := ⟨_, rfl⟩
  obtain ⟨n, hn⟩ : ∃ n, n = ps.length := ⟨_, rfl⟩
  have HM := Lib.hid hm
  have HN := Lib.hid hn
  have hm1 : m ≤ 1000001 := by omega
  have hn1 : n ≤ 1000001 := by omega
  rw [← hm, ← hn] at RT e2 ⊢
  have D : Below w2.heap.size w2 w2.drew := Below.drew (Below.refl _ _)
  have C1 := clone_names w2.drew ns _ An cn (HNV.out.below D) hnl
  rw [← hm] at C1
  have CN := Lib.hid C1
  have CT : Hid (∀ w', Below w2.heap.size w2 w' → Calls Tryz.prog 57 #[.slice A n c] w' fun e w3 => ∃ v cs, e = .returned v ∧ TL w3 (fun g => (P g ∧ g < w.heap.size) ∧ g < w'.heap.size) ps cs ∧ w3.ownsRow w'.heap.size 25 3 v n cs ∧ Below w'.heap.size w' w3) := fun w' hb => by
    have := clone_tys w' ps _ A c (HTV.out.below hb) hpl
    rw [← hn] at this
    exact this
  have rt := RT.out.cell
  have lt1 := RT.out.lt
  clear hN hT b1 b2 b12 h1 h2 s1 s2 R1 R2 IH hm hn hnl hpl C1 w1
  go_enter Tryz.func38, Tryz.ntmps38
  go_upto_region 1 with fail
  rw [← e2]
  clear e2
  refine wp_region_G (S := SG (fun w' => w2.heap.size ≤ w'.heap.size) 7 (fun w' => ∀ j, w'.cell? ⟨w.heap.size, j, none⟩ = (tarr k An m cn A n c)[j]?) 7 (fun _ => True)) (by kernel_rfl) ⟨Nat.le_refl _, fun _ => rt, fun _ => trivial⟩ (fun hS => ?_)
  refine wpG_take0 (i := 0) (v := ?v1) rfl (by kernel_rfl) (by kernel_rfl) (by kernel_rfl) (by decide) (by decide) (fun _ _ _ h => h) hS (Or.inl ⟨by rfl, ?hy1⟩) ?rest1
  case hy1 => (intro w' hw; go_simp; try with_reducible rfl)
  replace hS := SG.set (i := 0) (by decide) (by decide) hS
  try simp only [Act.put, List.setIfInBounds_toArray, List.set_cons_zero, List.set_cons_succ]
  refine wpG_take1 (i := 1) (v := ?v2) rfl (by kernel_rfl) (by kernel_rfl) (by kernel_rfl) (by decide) (by decide) (by kernel_rfl) (by kernel_rfl) (fun _ _ _ h => h) hS (Or.inl ⟨by rfl, ?hy2⟩) ?rest2
  case hy2 => (intro w' hw; obtain ⟨_, u9⟩ := hw; go_simp; try with_reducible rfl)
  replace hS := SG.set (i := 1) (by decide) (by decide) hS
  try simp only [Act.put, List.setIfInBounds_toArray, List.set_cons_zero, List.set_cons_succ]
  refine wpG_take0 (i := 3) (v := ?v3) rfl (by kernel_rfl) (by kernel_rfl) (by kernel_rfl) (by decide) (by decide) (fun _ _ _ h => h) hS (Or.inl ⟨by rfl, ?hy3⟩) ?rest3
  case hy3 => (intro w' hw; go_simp; try with_reducible rfl)
  replace hS := SG.set (i := 3) (by decide) (by decide) hS
  try simp only [Act.put, List.setIfInBounds_toArray, List.set_cons_zero, List.set_cons_succ]
  refine wpG_take1 (i := 4) (v := ?v4) rfl (by kernel_rfl) (by kernel_rfl) (by kernel_rfl) (by decide) (by decide) (by kernel_rfl) (by kernel_rfl) (fun _ _ _ h => h) hS (Or.inl ⟨by rfl, ?hy4⟩) ?rest4
  case hy4 => (intro w' hw; obtain ⟨_, u9⟩ := hw; go_simp; try with_reducible rfl)
  replace hS := SG.set (i := 4) (by decide) (by decide) hS
  try simp only [Act.put, List.setIfInBounds_toArray, List.set_cons_zero, List.set_cons_succ]
  refine wpG_ready (rs := [2]) (by kernel_rfl) (by simp) ?_
  refine RG.cons rfl rfl (fun K hK => ?_) RG.nil
  go_simp
  refine CN.out.mono ?_
  rintro e w3 ⟨Bn, dn, rfl, hnv, h3⟩
  go_wp2_with fail
  have R3 := RT.out.below (D.trans (h3.mono D.size)) RT.out.lt
  have HX3 := Lib.hid (D.trans (h3.mono D.size))
  have HNV3 := Lib.hid hnv
  refine hK.out _ _ ⟨HX3.out.size, fun _ => R3.cell, fun _ => trivial⟩ (fun hS => ?_)
  clear hK K
  try simp only [Act.put, List.setIfInBounds_toArray, List.set_cons_zero, List.set_cons_succ]
  refine wpG_take0 (i := 6) (v := ?v5) rfl (by kernel_rfl) (by kernel_rfl) (by kernel_rfl) (by decide) (by decide) (fun _ _ _ h => h) hS (Or.inl ⟨by rfl, ?hy5⟩) ?rest5
  case hy5 => (intro w' hw; go_simp; try with_reducible rfl)
  replace hS := SG.set (i := 6) (by decide) (by decide) hS
  try simp only [Act.put, List.setIfInBounds_toArray, List.set_cons_zero, List.set_cons_succ]
  refine wpG_ready (rs := [5]) (by kernel_rfl) (by simp) ?_
  refine RG.cons rfl rfl (fun K hK => ?_) RG.nil
  go_simp
  refine (CT.out w3 HX3.out).mono ?_
  rintro e w4 ⟨v, cs, rfl, htl, hown, h4⟩
  obtain ⟨B, d, rfl, hd⟩ := own_shape hown
  go_wp2_with fail
  have R4 := R3.below h4 R3.lt
  have HX4 := Lib.hid (HX3.out.trans (h4.mono HX3.out.size))
  have HNV4 := Lib.hid (HNV3.out.below h4)
  refine hK.out _ _ ⟨HX4.out.size, fun _ => R4.cell, fun _ => trivial⟩ (fun hS => ?_)
  clear hK K
  try simp only [Act.put, List.setIfInBounds_toArray, List.set_cons_zero, List.set_cons_succ]
  refine wpG_ready (rs := [7]) (by kernel_rfl) (by simp) ?_
  refine RG.cons rfl rfl (fun K hK => ?_) RG.nil
  have zt1 := R4.cell
  have zt1t := R4.thaw
  go_simp
  clear zt1 zt1t
  have R5 : RowB (w4.setCell ⟨w.heap.size, 1, none⟩ (.slice Bn m dn)) w.heap.size 25 #[.int .i64 k, .slice Bn m dn, .slice A n c] := R4.put 1 _
  refine hK.out _ _ ⟨by simpa [World.setCell] using HX4.out.size, fun h => absurd (h : true = false) (by decide), fun _ => trivial⟩ (fun hS => ?_)
  clear hK K
  try simp only [Act.put, List.setIfInBounds_toArray, List.set_cons_zero, List.set_cons_succ]
  refine wpG_take0 (i := 8) (v := ?v6) rfl (by kernel_rfl) (by kernel_rfl) (by kernel_rfl) (by decide) (by decide) (fun _ _ _ h => h) hS (Or.inl ⟨by rfl, ?hy6⟩) ?rest6
  case hy6 => (intro w' hw; go_simp; try with_reducible rfl)
  replace hS := SG.set (i := 8) (by decide) (by decide) hS
  try simp only [Act.put, List.setIfInBounds_toArray, List.set_cons_zero, List.set_cons_succ]
  refine wpG_ready (rs := [9]) (by kernel_rfl) (by simp) ?_
  refine RG.cons rfl rfl (fun K hK => ?_) RG.nil
  have zt1 := R5.cell
  have zt1t := R5.thaw
  go_simp
  clear zt1 zt1t
  have R6 : RowB ((w4.setCell ⟨w.heap.size, 1, none⟩ (.slice Bn m dn)).setCell ⟨w.heap.size, 2, none⟩ (.slice B n d)) w.heap.size 25 #[.int .i64 k, .slice Bn m dn, .slice B n d] := R5.put 2 _
  refine hK.out _ _ ⟨by simpa [World.setCell] using HX4.out.size, fun h => absurd (h : true = false) (by decide), fun _ => trivial⟩ (fun hS => ?_)
  clear hK K
  try simp only [Act.put, List.setIfInBounds_toArray, List.set_cons_zero, List.set_cons_succ]
  refine wpG_done (by kernel_rfl) ?_ _
  obtain ⟨W, hW⟩ : ∃ W, W = (w4.setCell ⟨w.heap.size, 1, none⟩ (.slice Bn m dn)).setCell ⟨w.heap.size, 2, none⟩ (.slice B n d) := ⟨_, rfl⟩
  have hblk : ∀ g, g ≠ w.heap.size → W.heap[g]? = w4.heap[g]? := fun g hg => by rw [hW, Below.heap_setCell _ _ _ _ hg, Below.heap_setCell _ _ _ _ hg]
  have hszW : W.heap.size = w4.heap.size := by rw [hW]; simp [World.setCell]
  rw [← hW] at R6 ⊢
  have h24 := HX4.out.size
  have hs2 := HS2.out
  have hw3s : w2.heap.size ≤ w3.heap.size := HX3.out.size
  have RTW := Lib.hid R6
  have RRW : Hid (RowB W (w.heap.size + 1) 25 tzc) := (hblk _ (by omega)).trans (RR.out.below HX4.out RR.out.lt)
  have HBW : Hid (Below w.heap.size w W) := by
    rw [hW]
    exact ((HB.out.trans (HX4.out.mono HB.out.size)).setCell (p := ⟨w.heap.size, 1, none⟩) (Nat.le_refl _) _).setCell (p := ⟨w.heap.size, 2, none⟩) (Nat.le_refl _) _
  have hBa : ∀ a, B = some a → w3.heap.size ≤ a.block := fun a ha => by
    rcases hown.2 with ⟨hv, _⟩ | ⟨g, cap, cur, hv, hbg, _⟩
    · injection hv with e1 _ _
      rw [e1] at ha
      cases ha
    · injection hv with e1 _ _
      rw [e1] at ha
      injection ha with ha
      subst ha
      exact hbg
  have h34 : w3.heap.size ≤ w4.heap.size := h4.size
  have HNW : Hid (NV W (fun g => w.heap.size + 2 ≤ g ∧ ∀ a, B = some a → g ≠ a.block) ns Bn dn) := HNV3.out.keep (by omega) fun g hg hl => ⟨(hblk g (by have : w2.drew.heap.size ≤ g := hg; have e : w2.drew.heap.size = w2.heap.size := rfl; omega)).trans (h4.block g hl), by have : w2.drew.heap.size ≤ g := hg; have e : w2.drew.heap.size = w2.heap.size := rfl; omega, fun a ha => by have := hBa a ha; omega⟩
  have HTW : Hid (n ≤ d ∧ (0 < n → ∃ G cur, B = some ⟨G, 0, none⟩ ∧ TW w.heap.size P ps G d 0 W cur [] cs)) := by
    refine ⟨hd, fun h0 => ?_⟩
    rcases hown.2 with ⟨hv, rfl⟩ | ⟨g, cap, cur, hv, hbg, hg, hnc, hcm, hcs, htake⟩
    · have := hown.1
      simp at this
      omega
    · injection hv with e1 e2 e3
      subst e1 e3
      refine ⟨g, cur, rfl, (hblk g (by omega)).trans hg, ?_, by rw [List.take_zero, TL], ?_, Nat.zero_le _, by omega⟩
      · rw [← HN.out, htake]; rfl
      · rw [List.drop_zero]
        exact TL.keep (by omega) (fun g hg _ => ⟨hblk g (by have := hg.1.2; omega), hg.1⟩) _ _ htl
  have hr := RTW.out.cell
  have hsW : Hid (w.heap.size + 2 ≤ W.heap.size) := by unfold Hid; omega
  clear hS hW hblk hszW R6 R5 R4 R3 htl hown h4 h3 hnv HNV3 HNV4 HX3 HX4 RT RR HNV HTV HS2 D CN CT rt lt1 HB h24 hs2 hw3s hd hBa h34
  go_wp2_with fail
  go_loopg [16] (n + 1) (fun kx s16 wr => ∃ i : Nat, s16 = .int .i64 i ∧ n - i ≤ kx ∧ i ≤ n ∧ Hid (RowB wr w.heap.size 25 #[.int .i64 k, .slice Bn m dn, .slice B n d]) ∧ Hid (RowB wr (w.heap.size + 1) 25 tzc) ∧ Hid (Below w.heap.size w wr) ∧ Hid (NV wr (fun g => w.heap.size + 2 ≤ g ∧ ∀ a, B = some a → g ≠ a.block) ns Bn dn) ∧ Hid (0 < n → ∃ G cur c1 c2, B = some ⟨G, 0, none⟩ ∧ TW w.heap.size P ps G d i wr cur c1 c2 ))
  case atStart => exact ⟨0, rfl, by omega, by omega, RTW.out, RRW.out, HBW.out, HNW.out, fun h0 => by obtain ⟨G, cur, e, h⟩ := HTW.out.2 h0; exact ⟨G, cur, [], cs, e, h⟩⟩
  case round =>
    obtain ⟨i, rfl, hkx, hin, HRT, HRR, HBr, HNr, HTr⟩ := hrel
    have hltT := HRT.out.lt
    have hltR := HRR.out.lt
    by_cases hi : i < n
    · have hil : (i : Int) < (n : Int) := by omega
      obtain ⟨p, ep⟩ := get_lt (l := ps) (i := i) (by rw [← HN.out]; exact hi)
      obtain ⟨G, cur, c1, c2, hB, htw⟩ := HTr.out (by omega)
      obtain ⟨Cn, fn, C, f, c3, hc2, hti, htl3, a0, a1, a2⟩ := htw.part ep
      have hGl := htw.row.lt
      have hG2 := htw.hG
      have HTWI := Lib.hid htw
      have HEP := Lib.hid ep
      have HC2 := Lib.hid hc2
      have HT3 := Lib.hid htl3
      obtain ⟨wx, hwx⟩ : ∃ wx, wx = wr.alloc (.cells (tarr p.kind Cn p.names.length fn C p.parts.length f) 25) := ⟨_, rfl⟩
      have bx : Below wr.heap.size wr wx := by rw [hwx]; exact bel1 wr _
      have RX : Hid (RowB wx wr.heap.size 25 (tarr p.kind Cn p.names.length fn C p.parts.length f)) := by rw [hwx]; exact RowB.new wr 25 _
      have DX : Below wx.heap.size wx wx.drew := Below.drew (Below.refl _ _)
      have HBX := Lib.hid (bx.trans (DX.mono bx.size))
      have CW := Lib.hid (HI.out p (List.mem_of_getElem? ep) wx.drew _ Cn fn C f (hti.below HBX.out))
      have rT := HRT.out.cell
      obtain ⟨j, hj⟩ : ∃ j, j = i + 1 := ⟨_, rfl⟩
      subst hB
      obtain ⟨kp, np, pp⟩ := p
      simp only [tarr, tv, kind_mk, names_mk, parts_mk] at a0 a1 a2 hwx RX CW
      have e8 := hwx
      clear ep hc2 htl3 hti htw HTr bx hwx
      go_wp2_with fail
      go_upto_region 5 with fail
      rw [← e8]
      clear e8
      have c4 := (show RowB wx.drew wr.heap.size 25 _ from RX.out).cell
      have cT := (HRT.out.below HBX.out HRT.out.lt).cell
      have hTS : Hid (w.heap.size ≠ G ∧ w.heap.size + 1 ≠ G) := by unfold Hid; omega
      have hxs : wr.heap.size ≤ wx.drew.heap.size := HBX.out.size
      refine wp_region_G (S := SG (fun w' => wr.heap.size ≤ w'.heap.size) 6 (fun w' => (∀ j, w'.cell? ⟨w.heap.size, j, none⟩ = (#[Value.int .i64 k, .slice Bn m dn, .slice (some ⟨G, 0, none⟩) n d])[j]?) ∧ ∀ j, w'.cell? ⟨wr.heap.size, j, none⟩ = (#[Value.int .i64 kp, .slice Cn np.length fn, .slice C pp.length f])[j]?) 6 (fun _ => True)) (by kernel_rfl) ⟨hxs, fun _ => ⟨cT, c4⟩, fun _ => trivial⟩ (fun hS => ?_)
      refine wpG_take0 (i := 0) (v := ?v7) rfl (by kernel_rfl) (by kernel_rfl) (by kernel_rfl) (by decide) (by decide) (fun _ _ _ h => h) hS (Or.inl ⟨by rfl, ?hy7⟩) ?rest7
      case hy7 => (intro w' hw; go_simp; try with_reducible rfl)
      replace hS := SG.set (i := 0) (by decide) (by decide) hS
      try simp only [Act.put, List.setIfInBounds_toArray, List.set_cons_zero, List.set_cons_succ]
      refine wpG_take1 (i := 1) (v := ?v8) rfl (by kernel_rfl) (by kernel_rfl) (by kernel_rfl) (by decide) (by decide) (by kernel_rfl) (by kernel_rfl) (fun _ _ _ h => h) hS (Or.inl ⟨by rfl, ?hy8⟩) ?rest8
      case hy8 => (intro w' hw; obtain ⟨_, u9, u8⟩ := hw; go_simp; try with_reducible rfl)
      replace hS := SG.set (i := 1) (by decide) (by decide) hS
      try simp only [Act.put, List.setIfInBounds_toArray, List.set_cons_zero, List.set_cons_succ]
      refine wpG_take0 (i := 2) (v := ?v9) rfl (by kernel_rfl) (by kernel_rfl) (by kernel_rfl) (by decide) (by decide) (fun _ _ _ h => h) hS (Or.inl ⟨by rfl, ?hy9⟩) ?rest9
      case hy9 => (intro w' hw; go_simp; try with_reducible rfl)
      replace hS := SG.set (i := 2) (by decide) (by decide) hS
      try simp only [Act.put, List.setIfInBounds_toArray, List.set_cons_zero, List.set_cons_succ]
      refine wpG_take1 (i := 3) (v := ?v10) rfl (by kernel_rfl) (by kernel_rfl) (by kernel_rfl) (by decide) (by decide) (by kernel_rfl) (by kernel_rfl) (fun _ _ _ h => h) hS (Or.inl ⟨by rfl, ?hy10⟩) ?rest10
      case hy10 => (intro w' hw; obtain ⟨_, u9, u8⟩ := hw; go_simp; try with_reducible rfl)
      replace hS := SG.set (i := 3) (by decide) (by decide) hS
      try simp only [Act.put, List.setIfInBounds_toArray, List.set_cons_zero, List.set_cons_succ]
      refine wpG_ready (rs := [4]) (by kernel_rfl) (by simp) ?_
      refine RG.cons rfl rfl (fun K hK => ?_) RG.nil
      go_simp
      refine CW.out.mono ?_
      rintro e w3 ⟨h3, An5, cn5, A5, c5, rfl, ht5⟩
      go_wp2_with fail
      have HB3 := Lib.hid (HBX.out.trans (h3.mono HBX.out.size))
      have k0 := (HB3.out.cell (p := ⟨G, i * 3, none⟩) hGl).trans a0
      have k1 := (HB3.out.cell (p := ⟨G, i * 3 + 1, none⟩) hGl).trans a1
      have k2 := (HB3.out.cell (p := ⟨G, i * 3 + 2, none⟩) hGl).trans a2
      have kT := (HRT.out.below HB3.out HRT.out.lt).cell
      have kX := ((show RowB wx.drew wr.heap.size 25 _ from RX.out).below h3 (show wr.heap.size < wx.drew.heap.size from RX.out.lt)).cell
      refine hK.out _ _ ⟨HB3.out.size, fun _ => ⟨kT, kX⟩, fun _ => trivial⟩ (fun hS => ?_)
      clear hK K
      try simp only [Act.put, List.setIfInBounds_toArray, List.set_cons_zero, List.set_cons_succ]
      refine wpG_take0 (i := 5) (v := ?v11) rfl (by kernel_rfl) (by kernel_rfl) (by kernel_rfl) (by decide) (by decide) (fun _ _ _ h => h) hS (Or.inl ⟨by rfl, ?hy11⟩) ?rest11
      case hy11 => (intro w' hw; go_simp; try with_reducible rfl)
      replace hS := SG.set (i := 5) (by decide) (by decide) hS
      try simp only [Act.put, List.setIfInBounds_toArray, List.set_cons_zero, List.set_cons_succ]
      refine wpG_ready (rs := [6]) (by kernel_rfl) (by simp) ?_
      refine RG.cons rfl rfl (fun K hK => ?_) RG.nil
      have zt1t := (HTWI.out.row.below HB3.out hGl).thaw
      go_simp
      clear zt1t k0 k1 k2
      refine hK.out _ _ ⟨by simpa [World.setCell] using HB3.out.size, fun h => absurd (h : true = false) (by decide), fun _ => trivial⟩ (fun hS => ?_)
      clear hK K
      try simp only [Act.put, List.setIfInBounds_toArray, List.set_cons_zero, List.set_cons_succ]
      refine wpG_done (by kernel_rfl) ?_ _
      have HTWN := Lib.hid (HTWI.out.step HEP.out HB3.out HC2.out HT3.out (ht5.mono fun g hg => Nat.le_trans hxs hg))
      simp only [kind_mk, names_mk, parts_mk] at HTWN
      have hblk : ∀ g, g ≠ G → (((w3.setCell ⟨G, i * 3, none⟩ (.int .i64 kp)).setCell ⟨G, i * 3 + 1, none⟩ (.slice An5 np.length cn5)).setCell ⟨G, i * 3 + 2, none⟩ (.slice A5 pp.length c5)).heap[g]? = w3.heap[g]? := fun g hg => by
        rw [Below.heap_setCell _ _ _ _ hg, Below.heap_setCell _ _ _ _ hg, Below.heap_setCell _ _ _ _ hg]
      have HRTN : Hid (RowB (((w3.setCell ⟨G, i * 3, none⟩ (.int .i64 kp)).setCell ⟨G, i * 3 + 1, none⟩ (.slice An5 np.length cn5)).setCell ⟨G, i * 3 + 2, none⟩ (.slice A5 pp.length c5)) w.heap.size 25 #[.int .i64 k, .slice Bn m dn, .slice (some ⟨G, 0, none⟩) n d]) := (hblk _ hTS.out.1).trans (HRT.out.below HB3.out HRT.out.lt)
      have HRRN : Hid (RowB (((w3.setCell ⟨G, i * 3, none⟩ (.int .i64 kp)).setCell ⟨G, i * 3 + 1, none⟩ (.slice An5 np.length cn5)).setCell ⟨G, i * 3 + 2, none⟩ (.slice A5 pp.length c5)) (w.heap.size + 1) 25 tzc) := (hblk _ hTS.out.2).trans (HRR.out.below HB3.out HRR.out.lt)
      have HBN : Hid (Below w.heap.size w (((w3.setCell ⟨G, i * 3, none⟩ (.int .i64 kp)).setCell ⟨G, i * 3 + 1, none⟩ (.slice An5 np.length cn5)).setCell ⟨G, i * 3 + 2, none⟩ (.slice A5 pp.length c5))) :=
        (((HBr.out.trans (HB3.out.mono HBr.out.size)).setCell (p := ⟨G, i * 3, none⟩) (by show w.heap.size ≤ G; omega) _).setCell (p := ⟨G, i * 3 + 1, none⟩) (by show w.heap.size ≤ G; omega) _).setCell (p := ⟨G, i * 3 + 2, none⟩) (by show w.heap.size ≤ G; omega) _
      have HNN : Hid (NV (((w3.setCell ⟨G, i * 3, none⟩ (.int .i64 kp)).setCell ⟨G, i * 3 + 1, none⟩ (.slice An5 np.length cn5)).setCell ⟨G, i * 3 + 2, none⟩ (.slice A5 pp.length c5)) (fun g => w.heap.size + 2 ≤ g ∧ ∀ a, some (⟨G, 0, none⟩ : Addr) = some a → g ≠ a.block) ns Bn dn) := HNr.out.keep (by have := HB3.out.size; simp [World.setCell]; omega) fun g hg hl => ⟨(hblk g (hg.2 _ rfl)).trans (HB3.out.block g hl), hg⟩
      clear hS CW hblk rT c4 cT a0 a1 a2 h3 ht5 HTWI HB3 HBX
      go_wp2_with fail
      go_roundg (n - j)
      case measure => omega
      case rel => exact ⟨j, by rw [hj]; go_num, by omega, by omega, HRTN.out, HRRN.out, HBN.out, HNN.out, fun _ => ⟨G, _, _, _, rfl, by rw [hj]; exact HTWN.out⟩⟩
    · have hil : ¬ (i : Int) < (n : Int) := by omega
      obtain rfl : n = i := by omega
      have rT := HRT.out.cell
      have rR := HRR.out.cell
      have rRt := HRR.out.thaw
      clear hi
      go_wp2_with fail
      refine bodyPost_ret (v := .agg #[.int .i64 k, .slice Bn m dn, .slice B n d]) ?_ rfl ⟨below_put3 HBr.out (by omega) _ _ _, Bn, dn, B, d, by rw [HM.out, HN.out]; rfl, ?_⟩
      · simp [results, Tryz.results38, go_sem, rR]
        try first | rfl | exact ⟨rfl, rfl⟩
      · refine TI.put3 (Q := fun g => w.heap.size + 2 ≤ g) (TI_iff.2 ⟨HNr.out.mono fun g hg => by first | exact hg | exact hg.1, ?_⟩) (fun g hg => ⟨by omega, by omega⟩) _ _ _
        by_cases h0 : 0 < n
        · obtain ⟨G, cur, c1, c2, hB, htw⟩ := HTr.out h0
          subst hB
          have hd := HTW.out.1
          rw [HN.out] at htw hd
          exact htw.fin hd
        · have : ps = [] := List.eq_nil_of_length_eq_zero (by rw [← HN.out]; omega)
          subst this
          exact TV.nil _ _ _ _
theorem twin_any : ∀ t : Ty, t.cnt ≤ 1000001 → ∀ (w : World) (P : Nat → Prop) (An : Option Addr) (cn : Nat) (A : Option Addr) (c : Nat), TI w P t An cn A c → Calls Tryz.prog 38 #[tv t An cn A c] w (MadeQ (fun g => w.heap.size ≤ g) t w) := by
  refine Ty.ind fun k ns ps ih hc w P An cn A c h => ?_
  have hc2 := hc
  rw [Ty.cnt] at hc
  have e1 := cntL_len ps
  have hk := TI_iff.1 h
  exact twin_step k ns ps (by omega) (by omega) (fun p hp w P An cn A c h => ih p hp (by have := cnt_mem hp; omega) w P An cn A c h) w P An cn A c hk.1 hk.2
end Tm
end Go.Proofs.YtifkjngclkklfaaGreatDoor
/- Contracts: what several types have in common, by the program. -/
namespace Go.Proofs.YtifkjngclkklfaaGreatDoor
open Go.RowKit Go.Op
namespace Tm
/-- What some types have in common, one after the other. -/
def allT : List Ty → Ty
  | [] => dyn
  | t :: l => l.foldl com t
theorem allT_one {l : List Ty} {t : Ty} (e : l[0]? = some t) : allT (l.take 1) = t := by
  cases l with
  | nil => simp at e
  | cons a l =>
    obtain rfl : a = t := by simpa using e
    simp [allT]
theorem allT_next {l : List Ty} {t : Ty} {i : Nat} (e : l[i + 1]? = some t) : allT (l.take (i + 1 + 1)) = com (allT (l.take (i + 1))) t := by
  cases l with
  | nil => simp at e
  | cons a l =>
    have e : l[i]? = some t := by simpa using e
    rw [List.take_succ_cons, List.take_succ_cons, allT, allT, List.take_add_one, e]
    simp
theorem allT_ok {l : List Ty} (hr : ∀ p ∈ l, p.right = true) (hc : ∀ p ∈ l, p.cnt ≤ 1000001) : (allT l).right = true ∧ (allT l).cnt ≤ 1000001 := by
  have key : ∀ (l : List Ty) (t : Ty), t.right = true → t.cnt ≤ 1000001 → (∀ p ∈ l, p.right = true) → (l.foldl com t).right = true ∧ (l.foldl com t).cnt ≤ 1000001 := by
    intro l
    induction l with
    | nil => intro t h1 h2 _; exact ⟨h1, h2⟩
    | cons a l ih =>
      intro t h1 h2 h3
      have ha := h3 a List.mem_cons_self
      exact ih (com t a) (com_right _ t a (Nat.le_refl _) h1 ha) (Nat.le_trans (com_cnt t h1 a ha) h2) fun p hp => h3 p (List.mem_cons_of_mem _ hp)
  cases l with
  | nil => exact ⟨by simp [allT, dyn, Ty.right, ownB, rightL], by simp [allT, dyn, Ty.cnt, cntL]⟩
  | cons t l => exact key l t (hr t List.mem_cons_self) (hc t List.mem_cons_self) fun p hp => hr p (List.mem_cons_of_mem _ hp)
set_option maxHeartbeats 16000000 in
set_option maxRecDepth 100000 in
theorem all_types (w : World) (ps : List Ty) (P : Nat → Prop) (A : Option Addr) (c : Nat) (hT : TV w P ps A c) (hl : ps.length ≤ 1000001) (hr : ∀ p ∈ ps, p.right = true) (hc : ∀ p ∈ ps, p.cnt ≤ 1000001) :
    Calls Tryz.prog 37 #[.slice A ps.length c] w (MadeQ (fun g => P g ∨ w.heap.size ≤ g) (allT ps) w) := by
  replace hT := hT.low
  have b1 := bel1 w (.cells tzc 25)
  have R0 := Lib.hid (RowB.new w 25 tzc)
  by_cases h0 : ps = []
  · subst h0
    have HB := Lib.hid b1
    have r0 := R0.out.cell
    have r0t := R0.out.thaw
    clear hT b1 hr hc hl
    go_enter Tryz.func37, Tryz.ntmps37
    go_wp2_with fail
    refine bodyPost_ret (v := tz) ?_ rfl ⟨HB.out, none, 0, none, 0, rfl, TI_iff.2 ⟨NV.nil _ _ _ _, TV.nil _ _ _ _⟩⟩
    simp [results, Tryz.results37, go_sem, r0]
    try first | rfl | exact ⟨rfl, rfl⟩
  · obtain ⟨n, hn⟩ : ∃ n, n + 1 = ps.length := ⟨ps.length - 1, by have := List.length_pos_iff.2 h0; omega⟩
    obtain ⟨t0, e0⟩ := get_lt (l := ps) (i := 0) (by omega)
    obtain ⟨g, o, An, cn, B, d, hA, hP, hg, hti, u0, u1, u2⟩ := (hT.below b1).nth e0
    simp only [Nat.zero_mul, Nat.add_zero] at u0 u1 u2
    subst hA
    have HR : Hid (∀ i, (allT (ps.take i)).right = true ∧ (allT (ps.take i)).cnt ≤ 1000001) := fun i => allT_ok (fun p hp => hr p (List.mem_of_mem_take hp)) (fun p hp => hc p (List.mem_of_mem_take hp))
    have HPR : Hid (∀ p ∈ ps, p.right = true ∧ p.cnt ≤ 1000001) := fun p hp => ⟨hr p hp, hc p hp⟩
    have hcap : n + 1 ≤ c := by have := hT.1; omega
    obtain ⟨w1, h1⟩ : ∃ w1, w1 = w.alloc (.cells tzc 25) := ⟨_, rfl⟩
    have s1 : w1.heap.size = w.heap.size + 1 := by rw [h1]; simp
    rw [← h1] at R0 b1 u0 u1 u2 hg hti
    obtain ⟨w2, h2⟩ : ∃ w2, w2 = w1.alloc (.cells (tarr t0.kind An t0.names.length cn B t0.parts.length d) 25) := ⟨_, rfl⟩
    have b2 : Below w1.heap.size w1 w2 := by rw [h2]; exact bel1 w1 _
    have R2 : RowB w2 (w.heap.size + 1) 25 (tarr t0.kind An t0.names.length cn B t0.parts.length d) := by rw [h2, ← s1]; exact RowB.new w1 25 _
    have s2 : w2.heap.size = w.heap.size + 2 := by rw [h2]; simp [s1]
    have b12 := b1.trans (b2.mono b1.size)
    have RR := Lib.hid (R0.out.below b2 R0.out.lt)
    have HB := Lib.hid b12
    have HS2 : Hid (w.heap.size + 2 ≤ w2.heap.size) := by unfold Hid; omega
    have HTV := Lib.hid (hT.below b12)
    have HT0 : Hid (∃ Bn dn B d, RowB w2 (w.heap.size + 1) 25 (tarr (allT (ps.take 1)).kind Bn (allT (ps.take 1)).names.length dn B (allT (ps.take 1)).parts.length d) ∧ TI w2 (fun g => (P g ∧ g < w.heap.size) ∨ w.heap.size + 2 ≤ g) (allT (ps.take 1)) Bn dn B d) := by
      unfold Hid
      rw [allT_one e0]
      exact ⟨An, cn, B, d, R2, (hti.below b2).mono fun g hg => .inl hg⟩
    have HN := Lib.hid hn
    have hn1 : n ≤ 1000001 := by omega
    rw [← hn]
    obtain ⟨k0, n0, p0⟩ := t0
    simp only [tarr, kind_mk, names_mk, parts_mk] at u0 u1 u2 h2
    have e2 : w2 = (w.alloc (.cells tzc 25)).alloc (.cells #[.int .i64 k0, .slice An n0.length cn, .slice B p0.length d] 25) := by rw [h2, h1]
    rw [h1] at u0 u1 u2
    have hgl : g < w.heap.size + 1 := by rw [← s1]; exact hg
    clear hT b1 b2 b12 R2 R0 hr hc hl h0 e0 hti h1 h2 s1 s2 hn hg hP
    go_enter Tryz.func37, Tryz.ntmps37
    go_wp2_with fail
    all_goals
      rw [← e2]
      clear e2 u0 u1 u2
      go_loopg [16] (n + 1) (fun kx s16 wr => ∃ i : Nat, s16 = .int .i64 i ∧ n - i ≤ kx ∧ i ≤ n ∧ Hid (Below w.heap.size w wr) ∧ Hid (w2.heap.size ≤ wr.heap.size) ∧ Hid (RowB wr w.heap.size 25 tzc) ∧ Hid (∃ Bn dn B d, RowB wr (w.heap.size + 1) 25 (tarr (allT (ps.take (i + 1))).kind Bn (allT (ps.take (i + 1))).names.length dn B (allT (ps.take (i + 1))).parts.length d) ∧ TI wr (fun g => (P g ∧ g < w.heap.size) ∨ w.heap.size + 2 ≤ g) (allT (ps.take (i + 1))) Bn dn B d))
      case atStart => exact ⟨0, rfl, by omega, by omega, HB.out, Nat.le_refl _, RR.out, HT0.out⟩
      case round =>
        obtain ⟨i, rfl, hkx, hin, HBr, HSr, HRr, Bn, dn, B2, d2, hrow, hti⟩ := hrel
        have HROW := Lib.hid hrow
        have HTI := Lib.hid hti
        clear hrow hti
        by_cases hi : i < n
        · have hil : (i : Int) < (n : Int) := by omega
          obtain ⟨p, ep⟩ := get_lt (l := ps) (i := i + 1) (by rw [← HN.out]; omega)
          obtain ⟨g', o', Cn, fn, C, f, hA, hP, hg, htp, v0, v1, v2⟩ := (show TV wr (fun g => P g ∧ g < w.heap.size) ps (some ⟨g, o, none⟩) _ from HTV.out.keep HSr.out fun g hg hl => ⟨(HBr.out.block g hg.2).trans (HB.out.block g hg.2).symm, hg⟩).nth ep
          injection hA with hA
          injection hA with hA1 hA2
          subst hA1 hA2
          rw [show o + (i + 1) * 3 = o + 3 + i * 3 by omega] at v0 v1 v2
          have HNX := Lib.hid (allT_next ep)
          obtain ⟨t, ht⟩ : ∃ t, t = allT (ps.take (i + 1)) := ⟨_, rfl⟩
          have hrt := HR.out (i + 1)
          have hpr := HPR.out p (List.mem_of_getElem? ep)
          rw [← ht] at hrt
          rw [← ht] at HROW HTI HNX
          have b5 := bel1 wr (.cells (tarr p.kind Cn p.names.length fn C p.parts.length f) 25)
          obtain ⟨w5, h5⟩ : ∃ w5, w5 = wr.alloc (.cells (tarr p.kind Cn p.names.length fn C p.parts.length f) 25) := ⟨_, rfl⟩
          have R5 : Hid (RowB w5 wr.heap.size 25 (tarr p.kind Cn p.names.length fn C p.parts.length f)) := by rw [h5]; exact RowB.new wr 25 _
          rw [← h5] at b5
          have C5 := Lib.hid (join_any t p hrt.1 hpr.1 hrt.2 hpr.2 w5 _ _ Bn dn B2 d2 Cn fn C f (HTI.out.below b5) (htp.below b5))
          have HB5 := Lib.hid b5
          have RT5 := Lib.hid (HROW.out.below b5 HROW.out.lt)
          obtain ⟨T5, hT5⟩ : ∃ T5, T5 = com t p := ⟨_, rfl⟩
          rw [← hT5] at C5 HNX
          obtain ⟨j, hj⟩ : ∃ j, j = i + 1 := ⟨_, rfl⟩
          have hPg : Hid (g < w.heap.size) := hP.2
          have HS2' := HS2.out
          have HSr' := HSr.out
          obtain ⟨kt, nt, pt⟩ := t
          obtain ⟨kp, np, pp⟩ := p
          obtain ⟨k6, n6, p6⟩ := T5
          simp only [tarr, tv, kind_mk, names_mk, parts_mk] at v0 v1 v2 h5 R5 C5 RT5
          have e5 := h5
          have rt := RT5.out.cell
          rw [e5] at rt
          clear ht hT5 hrt hpr ep h5 b5 htp hP HROW HTI HT0
          go_wp2_with fail
          all_goals
            rw [← e5]
            refine C5.out.mono ?_
            rintro e w6 ⟨h6, An6, cn6, A6, c6, rfl, ht6⟩
            have RT6 := Lib.hid (RT5.out.below h6 RT5.out.lt)
            have hb6 := HB5.out.trans (h6.mono HB5.out.size)
            have HB6 := Lib.hid hb6
            have r6 := RT6.out.cell
            have r6t := RT6.out.thaw
            have HRN : Hid (RowB (((w6.setCell ⟨w.heap.size + 1, 0, none⟩ (.int .i64 k6)).setCell ⟨w.heap.size + 1, 1, none⟩ (.slice An6 n6.length cn6)).setCell ⟨w.heap.size + 1, 2, none⟩ (.slice A6 p6.length c6)) (w.heap.size + 1) 25 #[.int .i64 k6, .slice An6 n6.length cn6, .slice A6 p6.length c6]) := ((RT6.out.put 0 _).put 1 _).put 2 _
            have HTN : Hid (TI (((w6.setCell ⟨w.heap.size + 1, 0, none⟩ (.int .i64 k6)).setCell ⟨w.heap.size + 1, 1, none⟩ (.slice An6 n6.length cn6)).setCell ⟨w.heap.size + 1, 2, none⟩ (.slice A6 p6.length c6)) (fun g => (P g ∧ g < w.heap.size) ∨ w.heap.size + 2 ≤ g) (.mk k6 n6 p6) An6 cn6 A6 c6) := ht6.put3 (fun g hg => by
              have h1 := HB5.out.size
              have h2 := HSr.out
              have h3 := HS2.out
              rcases hg with (hg | hg) | hg
              · exact ⟨hg, by
                  rcases hg with hg | hg
                  all_goals
                    have h4 := hg
                    omega⟩
              · exact ⟨.inl hg, by have := hg.2; omega⟩
              · exact ⟨.inr (by omega), by omega⟩) _ _ _
            have HRRN : Hid (RowB (((w6.setCell ⟨w.heap.size + 1, 0, none⟩ (.int .i64 k6)).setCell ⟨w.heap.size + 1, 1, none⟩ (.slice An6 n6.length cn6)).setCell ⟨w.heap.size + 1, 2, none⟩ (.slice A6 p6.length c6)) w.heap.size 25 tzc) := (((HRr.out.below HB6.out HRr.out.lt).far (p := ⟨w.heap.size + 1, 0, none⟩) (by show w.heap.size ≠ w.heap.size + 1; omega) _).far (p := ⟨w.heap.size + 1, 1, none⟩) (by show w.heap.size ≠ w.heap.size + 1; omega) _).far (p := ⟨w.heap.size + 1, 2, none⟩) (by show w.heap.size ≠ w.heap.size + 1; omega) _
            have HBN := Lib.hid (below_put3 (HBr.out.trans (HB6.out.mono HBr.out.size)) (g := w.heap.size + 1) (by omega) (.int .i64 k6) (.slice An6 n6.length cn6) (.slice A6 p6.length c6))
            have HSN : Hid (w2.heap.size ≤ (((w6.setCell ⟨w.heap.size + 1, 0, none⟩ (.int .i64 k6)).setCell ⟨w.heap.size + 1, 1, none⟩ (.slice An6 n6.length cn6)).setCell ⟨w.heap.size + 1, 2, none⟩ (.slice A6 p6.length c6)).heap.size) := by have := HB6.out.size; unfold Hid; simp [World.setCell]; omega
            clear h6 ht6 C5 rt e5 hb6 v0 v1 v2
            go_wp2_with fail
            go_roundg (n - j)
            case measure => omega
            case rel => exact ⟨j, by rw [hj]; go_num, by omega, by omega, HBN.out, HSN.out, HRRN.out, by rw [hj, HNX.out]; exact ⟨An6, cn6, A6, c6, HRN.out, HTN.out⟩⟩
        · have hil : ¬ (i : Int) < (n : Int) := by omega
          obtain rfl : n = i := by omega
          have htk : ps.take (n + 1) = ps := List.take_of_length_le (by rw [HN.out]; exact Nat.le_refl _)
          rw [htk] at HROW HTI
          obtain ⟨t, ht⟩ : ∃ t, t = allT ps := ⟨_, rfl⟩
          rw [← ht] at HROW HTI
          have HTE := Lib.hid ht
          obtain ⟨kt, nt, pt⟩ := t
          simp only [tarr, kind_mk, names_mk, parts_mk] at HROW
          have r0 := HRr.out.cell
          have r0t := HRr.out.thaw
          have rt := HROW.out.cell
          have hlt := HROW.out.lt
          clear ht htk hi HT0
          go_wp2_with fail
          refine bodyPost_ret (v := .agg #[.int .i64 kt, .slice Bn nt.length dn, .slice B2 pt.length d2]) ?_ rfl ⟨below_put3 HBr.out (by omega) _ _ _, Bn, dn, B2, d2, by rw [← HTE.out]; rfl, ?_⟩
          · simp [results, Tryz.results37, go_sem, r0]
            try first | rfl | exact ⟨rfl, rfl⟩
          · rw [← HTE.out]
            refine HTI.out.put3 (fun g hg => ?_) _ _ _
            rcases hg with h | h
            · exact ⟨.inl h.1, by have := h.2; omega⟩
            · exact ⟨.inr (by omega), by omega⟩
end Tm
end Go.Proofs.YtifkjngclkklfaaGreatDoor
