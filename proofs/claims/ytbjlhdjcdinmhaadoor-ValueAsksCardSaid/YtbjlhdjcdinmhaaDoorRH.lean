/- Contract: a value with another name for a name (f28). -/
import Derived.Test.YtbjlhdjcdinmhaaDoorRG
namespace Go.Proofs.YtbjlhdjcdinmhaaDoor
open Go.RowKit Go.Op
namespace Vm
/-- What Named answers. -/
def NmQ (P : Nat → Prop) (o : Option Vl) (w : World) (e : Ending) (w' : World) : Prop :=
  Below w.heap.size w w' ∧ ∃ An cn A c, e = .returned (.tuple #[vv (o.getD zero) An cn A c, .bool o.isSome]) ∧ VI w' (fun g => P g ∨ w.heap.size ≤ g) (o.getD zero) An cn A c
theorem take_set5 {cur : Array Value} {m : Nat} {c1 : List Value} (h : cur.toList.take m = c1) (hl : c1.length = m) (hs : m + 5 ≤ cur.size) (y0 y1 y2 y3 y4 : Value) :
    (((((cur.setIfInBounds m y0).setIfInBounds (m + 1) y1).setIfInBounds (m + 2) y2).setIfInBounds (m + 3) y3).setIfInBounds (m + 4) y4).toList.take (m + 5) = c1 ++ [y0, y1, y2, y3, y4] := by
  have hd : (cur.toList.drop m).length = cur.size - m := by simp
  obtain ⟨r, hr⟩ : ∃ r, r = cur.toList.drop m := ⟨_, rfl⟩
  rw [← hr] at hd
  have e : cur.toList = c1 ++ r := by rw [← h, hr, List.take_append_drop]
  rw [Array.toList_setIfInBounds, Array.toList_setIfInBounds, Array.toList_setIfInBounds, Array.toList_setIfInBounds, Array.toList_setIfInBounds, e]
  subst hl
  match r, hd with
  | [], hd => simp at hd; omega
  | [_], hd => simp at hd; omega
  | [_, _], hd => simp at hd; omega
  | [_, _, _], hd => simp at hd; omega
  | [_, _, _, _], hd => simp at hd; omega
  | x0 :: x1 :: x2 :: x3 :: x4 :: r, _ =>
    rw [List.set_append_right _ _ (Nat.le_refl _), List.set_append_right _ _ (by omega), List.set_append_right _ _ (by omega), List.set_append_right _ _ (by omega), List.set_append_right _ _ (by omega), Nat.sub_self, show c1.length + 1 - c1.length = 1 by omega, show c1.length + 2 - c1.length = 2 by omega, show c1.length + 3 - c1.length = 3 by omega, show c1.length + 4 - c1.length = 4 by omega]
    simp [List.take_append]
    exact List.take_of_length_le (by omega)
/-- Parts as far as they have been laid, in a row that was made whole. -/
structure NP (B0 : Nat) (P : Nat → Prop) (qs : List Vl) (G n : Nat) (wr : World) (cur : Array Value) : Prop where
  row : RowB wr G 34 cur
  size : cur.size = n * 5
  new : ∃ c1, cur.toList.take (qs.length * 5) = c1 ∧ VL wr (fun g => ((P g ∧ g < B0) ∨ B0 + 2 ≤ g) ∧ g ≠ G) qs c1
  hG : B0 + 2 ≤ G
section
variable {B0 G n i : Nat} {P : Nat → Prop} {qs : List Vl} {wr w3 : World} {cur : Array Value}
theorem NP.step (h : NP B0 P qs G n wr cur) (hi : qs.length = i) (hin : i < n) (hb : Below wr.heap.size wr w3) (_hB : B0 + 2 ≤ wr.heap.size) {qh : VH} {qns : List ByteArray} {qps : List Vl} {qN : Option Addr} {qn : Nat} {qV : Option Addr} {qv : Nat} (ht : VI w3 (fun g => (P g ∧ g < B0) ∨ wr.heap.size ≤ g) (.mk qh qns qps) qN qn qV qv) :
    NP B0 P (qs ++ [.mk qh qns qps]) G n ((((((((((w3).setCell ⟨G, i * 5, none⟩ (.int .i64 qh.kind))).setCell ⟨G, i * 5 + 1, none⟩ (.int .i64 qh.n))).setCell ⟨G, i * 5 + 2, none⟩ (.string qh.s))).setCell ⟨G, i * 5 + 3, none⟩ (.slice qN qns.length qn))).setCell ⟨G, i * 5 + 4, none⟩ (.slice qV qps.length qv)) (((((cur.setIfInBounds (i * 5) (.int .i64 qh.kind)).setIfInBounds (i * 5 + 1) (.int .i64 qh.n)).setIfInBounds (i * 5 + 2) (.string qh.s)).setIfInBounds (i * 5 + 3) (.slice qN qns.length qn)).setIfInBounds (i * 5 + 4) (.slice qV qps.length qv)) := by
  subst hi
  have hG := h.row.lt
  have hGG := h.hG
  have hblk : ∀ g, g ≠ G → (((((((((((w3).setCell ⟨G, qs.length * 5, none⟩ (.int .i64 qh.kind))).setCell ⟨G, qs.length * 5 + 1, none⟩ (.int .i64 qh.n))).setCell ⟨G, qs.length * 5 + 2, none⟩ (.string qh.s))).setCell ⟨G, qs.length * 5 + 3, none⟩ (.slice qN qns.length qn))).setCell ⟨G, qs.length * 5 + 4, none⟩ (.slice qV qps.length qv))).heap[g]? = w3.heap[g]? := fun g hg => by
    rw [Below.heap_setCell _ _ _ _ hg, Below.heap_setCell _ _ _ _ hg, Below.heap_setCell _ _ _ _ hg, Below.heap_setCell _ _ _ _ hg, Below.heap_setCell _ _ _ _ hg]
  have hsz : w3.heap.size ≤ (((((((((((w3).setCell ⟨G, qs.length * 5, none⟩ (.int .i64 qh.kind))).setCell ⟨G, qs.length * 5 + 1, none⟩ (.int .i64 qh.n))).setCell ⟨G, qs.length * 5 + 2, none⟩ (.string qh.s))).setCell ⟨G, qs.length * 5 + 3, none⟩ (.slice qN qns.length qn))).setCell ⟨G, qs.length * 5 + 4, none⟩ (.slice qV qps.length qv))).heap.size := by simp [World.setCell]
  obtain ⟨c1, e1, h1⟩ := h.new
  have hl := VL.len _ _ h1
  refine ⟨((((((h.row.below hb hG).put (qs.length * 5) _).put (qs.length * 5 + 1) _).put (qs.length * 5 + 2) _).put (qs.length * 5 + 3) _).put (qs.length * 5 + 4) _), by simp [h.size], ⟨c1 ++ vcs (.mk qh qns qps) qN qn qV qv, ?_, ?_⟩, hGG⟩
  · rw [List.length_append, List.length_singleton, Nat.add_mul, Nat.one_mul]
    exact take_set5 e1 hl (by rw [h.size]; have := Nat.mul_le_mul_right 5 (show qs.length + 1 ≤ n from hin); omega) _ _ _ _ _
  · refine VL.app _ _ (VL.keep (Nat.le_trans hb.size hsz) (fun g hg hl => ⟨(hblk g hg.2).trans (hb.block g hl), hg⟩) _ _ h1) (VL.one (ht.keep hsz fun g hg hl => ?_))
    have hne : g ≠ G := by rcases hg with h | h <;> omega
    exact ⟨hblk g hne, by rcases hg with h | h; exact .inl h; exact .inr (by omega), hne⟩
theorem NP.fin (h : NP B0 P qs G n wr cur) (hl : qs.length = n) : VV wr (fun g => (P g ∧ g < B0) ∨ B0 + 2 ≤ g) qs (some ⟨G, 0, none⟩) n := by
  subst hl
  obtain ⟨c1, e1, h1⟩ := h.new
  have hc : cur.toList = c1 := by rw [← e1, List.take_of_length_le (by simp [h.size])]
  have := VV.new (P := fun g => (P g ∧ g < B0) ∨ B0 + 2 ≤ g) h.row (k := qs) (by rw [hc]; exact VL.keep (Nat.le_refl _) (fun g hg _ => ⟨rfl, hg.1⟩) _ _ h1) (.inr h.hG)
  exact this
end
set_option maxHeartbeats 8000000 in
set_option maxRecDepth 100000 in
theorem pnamed_leaf (f t : ByteArray) (k : VH) (hk : k.kind ≠ 3) (ns : List ByteArray) (ps : List Vl) (w : World) (P : Nat → Prop) (An : Option Addr) (cn : Nat) (A : Option Addr) (c : Nat) (h : VI w P (.mk k ns ps) An cn A c) :
    Calls Tryd.prog 28 #[.agg (varr k An ns.length cn A ps.length c), .string f, .string t] w (NmQ P ((Vl.mk k ns ps).named f t) w) := by
  rw [Vl.named, if_pos hk]
  have h := h.low
  have b1 := bel1 w (.cells (varr k An ns.length cn A ps.length c) 34)
  have b2 := b1.trans ((bel1 (w.alloc (.cells (varr k An ns.length cn A ps.length c) 34)) (.cells (varr k An ns.length cn A ps.length c) 34)).mono b1.size)
  have R1 := Lib.hid ((RowB.new w 34 (varr k An ns.length cn A ps.length c)).alloc (.cells zvc 34))
  have R2 := Lib.hid (RowB.new (w.alloc (.cells (varr k An ns.length cn A ps.length c) 34)) 34 (varr k An ns.length cn A ps.length c))
  have hs2 : (w.alloc (.cells (varr k An ns.length cn A ps.length c) 34)).heap.size = w.heap.size + 1 := by simp
  rw [hs2] at R2
  have HV : Hid (VI _ (fun g => P g ∧ g < w.heap.size) (.mk k ns ps) An cn A c) := h.below b2
  have HB := Lib.hid b2
  have r1 := R1.out.cell
  have r2 := R2.out.cell
  have e3 : (k.kind != 3) = true := by rw [bne_iff_ne]; exact hk
  clear b1 b2 hs2 h R1 R2 hk
  go_enter Tryd.func28, Tryd.ntmps28
  go_wp2_with fail
  refine bodyPost_ret (v := .tuple #[vv (.mk k ns ps) An cn A c, .bool true]) ?_ rfl ⟨HB.out, An, cn, A, c, rfl, HV.out.mono fun g hg => .inl hg.1⟩
  simp [results, Tryd.results28, go_sem, r2]
  try first | rfl | exact ⟨rfl, rfl⟩
set_option maxHeartbeats 8000000 in
set_option maxRecDepth 100000 in
theorem pnamed_step (f t : ByteArray) (ht : t.size ≤ 140737488351232) (k : VH) (hk : k.kind = 3) (ns : List ByteArray) (ps : List Vl) (hnl : ns.length ≤ 1000001) (hpl : ps.length ≤ 1000001)
    (IH : ∀ p ∈ ps, ∀ (w : World) (P : Nat → Prop) (An : Option Addr) (cn : Nat) (A : Option Addr) (c : Nat), VI w P p An cn A c → Calls Tryd.prog 28 #[vv p An cn A c, .string f, .string t] w (NmQ P (p.named f t) w))
    (w : World) (P : Nat → Prop) (An : Option Addr) (cn : Nat) (A : Option Addr) (c : Nat) (hN : NV w P ns An cn) (hT : VV w P ps A c) :
    Calls Tryd.prog 28 #[.agg (varr k An ns.length cn A ps.length c), .string f, .string t] w (NmQ P ((Vl.mk k ns ps).named f t) w) := by
  replace hN := hN.low
  replace hT := hT.low
  obtain ⟨i0, hi0, hz0, hz1, hz2⟩ := info_parts info34
  have b1 := bel1 w (.cells (varr k An ns.length cn A ps.length c) 34)
  obtain ⟨w1, h1⟩ : ∃ w1, w1 = w.alloc (.cells (varr k An ns.length cn A ps.length c) 34) := ⟨_, rfl⟩
  have s1 : w1.heap.size = w.heap.size + 1 := by rw [h1]; simp
  have R1 : RowB w1 w.heap.size 34 (varr k An ns.length cn A ps.length c) := by rw [h1]; exact RowB.new w 34 _
  rw [← h1] at b1
  obtain ⟨w2, h2⟩ : ∃ w2, w2 = w1.alloc (.cells zvc 34) := ⟨_, rfl⟩
  have b2 : Below w1.heap.size w1 w2 := by rw [h2]; exact bel1 w1 _
  have s2 : w2.heap.size = w.heap.size + 2 := by rw [h2]; simp [s1]
  have R2 : RowB w2 (w.heap.size + 1) 34 zvc := by rw [h2, ← s1]; exact RowB.new w1 34 _
  have b12 := b1.trans (b2.mono b1.size)
  obtain ⟨n, hn⟩ : ∃ n, n = ps.length := ⟨_, rfl⟩
  have hmk : ∀ u : World, (Instr.makeSlice 32 (.int .i64 (n : Int)) (.int .i64 (n : Int))).run Tryd.prog u = .ok (.slice (some ⟨u.heap.size, 0, none⟩) n n) (u.alloc (.cells (madeCells zv.cells (n * 5)) 34)) := fun u => by
    have := run_make (P := Tryd.prog) u 32 34 i0 _ Tryd.underlying32 hi0 hz0 .i64 .i64 (n : Int) (n : Int) (by omega) (Int.le_refl _) (by rw [hz2]; omega) (by omega)
    simpa [hz1] using this
  have hRs := size_madeCells zv.cells (n * 5)
  obtain ⟨cs0, hcs⟩ : ∃ cs0, cs0 = madeCells zv.cells (n * 5) := ⟨_, rfl⟩
  rw [← hcs] at hmk hRs
  obtain ⟨W, hW⟩ : ∃ W, W = w2.alloc (.cells cs0 34) := ⟨_, rfl⟩
  have bW : Below w2.heap.size w2 W := by rw [hW]; exact bel1 w2 _
  have RW : RowB W (w.heap.size + 2) 34 cs0 := by rw [hW, ← s2]; exact RowB.new w2 34 _
  have bW0 := b12.trans (bW.mono b12.size)
  have e2 : W = ((w.alloc (.cells (varr k An ns.length cn A ps.length c) 34)).alloc (.cells zvc 34)).alloc (.cells cs0 34) := by rw [hW, h2, h1]
  have RT := Lib.hid ((R1.below b2 R1.lt).below bW (by omega))
  have RR := Lib.hid (R2.below bW (by omega))
  have HB := Lib.hid bW0
  have HNV := Lib.hid hN
  have HVV := Lib.hid hT
  have HNP : Hid (NP w.heap.size P [] (w.heap.size + 2) n W cs0) := ⟨RW, hRs, ⟨[], by simp, by rw [VL]⟩, by omega⟩
  have HI := Lib.hid IH
  have HHT := Lib.hid ht
  have HSW : Hid (w.heap.size + 2 < W.heap.size) := RW.lt
  have HMK := Lib.hid hmk
  obtain ⟨m, hm⟩ : ∃ m, m = ns.length := ⟨_, rfl⟩
  have HM := Lib.hid hm
  have HN := Lib.hid hn
  have hm1 : m ≤ 1000001 := by omega
  have hn1 : n ≤ 1000001 := by omega
  have hkk : k.kind = 3 := hk
  rw [← hm, ← hn] at RT e2 ⊢
  have HNM1 : Hid (∀ qs, namedL f t ps = some qs → (Vl.mk k ns ps).named f t = recO (ns.map (ren f t)) qs) := fun qs h => by rw [Vl.named, if_neg (by omega), h]
  have HNM0 : Hid (namedL f t ps = none → (Vl.mk k ns ps).named f t = none) := fun h => by rw [Vl.named, if_neg (by omega), h]
  obtain ⟨o, ho⟩ : ∃ o, o = (Vl.mk k ns ps).named f t := ⟨_, rfl⟩
  rw [← ho] at HNM1 HNM0 ⊢
  rw [h1, ← hm, ← hn] at R1
  have r1 := ((R1.alloc (.cells zvc 34)).alloc (.cells cs0 34)).cell
  have r0 := (R1.alloc (.cells zvc 34)).cell
  clear hN hT b1 b2 b12 bW bW0 h2 s1 s2 R2 IH hm hn hnl hpl hk hi0 hz0 hz1 hz2 RW hW hRs ho ht hcs
  obtain ⟨kd, kn, ks⟩ := k
  simp only at hkk
  subst hkk
  clear h1 R1 w1 w2
  simp only [varr] at r1 r0 e2 RT ⊢
  go_enter Tryd.func28, Tryd.ntmps28
  go_wp2_with fail
  rw [← e2]
  clear e2 r1 r0 hmk HMK
  go_loopg [26] (n + 1) (fun kx s26 wr => ∃ i : Nat, s26 = .int .i64 i ∧ n - i ≤ kx ∧ i ≤ n ∧ Hid (RowB wr w.heap.size 34 #[.int .i64 3, .int .i64 kn, .string ks, .slice An m cn, .slice A n c]) ∧ Hid (RowB wr (w.heap.size + 1) 34 zvc) ∧ Hid (Below w.heap.size w wr) ∧ Hid (w.heap.size + 2 < wr.heap.size) ∧ Hid (∃ qs cur, namedL f t (ps.take i) = some qs ∧ NP w.heap.size P qs (w.heap.size + 2) n wr cur))
  case atStart => exact ⟨0, rfl, by omega, by omega, RT.out, RR.out, HB.out, HSW.out, [], cs0, by simp [namedL], HNP.out⟩
  case round =>
    obtain ⟨i, rfl, hkx, hin, HRT, HRR, HBr, HSr, HNr⟩ := hrel
    obtain ⟨qs, cur, hqs, hnp⟩ := HNr.out
    have HQS := Lib.hid hqs
    have HNPr := Lib.hid hnp
    have hsr := HSr.out
    by_cases hi : i < n
    · have hil : (i : Int) < (n : Int) := by omega
      obtain ⟨p, ep⟩ := get_lt (l := ps) (i := i) (by rw [← HN.out]; exact hi)
      have HQL : Hid (qs.length = i) := by have := namedL_len hqs; rw [List.length_take] at this; have h2 := HN.out; unfold Hid; omega
      obtain ⟨g, oo, An2, cn2, A2, c2, hA, hP, hg, hti, z0, z1, z2, z3, z4⟩ := (HVV.out.below HBr.out).nth ep
      obtain ⟨wx, hwx⟩ : ∃ wx, wx = wr.alloc (.cells (varr p.hd An2 p.names.length cn2 A2 p.parts.length c2) 34) := ⟨_, rfl⟩
      have bx : Below wr.heap.size wr wx := by rw [hwx]; exact bel1 wr _
      have RX : Hid (RowB wx wr.heap.size 34 (varr p.hd An2 p.names.length cn2 A2 p.parts.length c2)) := by rw [hwx]; exact RowB.new wr 34 _
      have C1 := Lib.hid (HI.out p (List.mem_of_getElem? ep) wx _ An2 cn2 A2 c2 (hti.below bx))
      have HNO : Hid (p.named f t = none → o = none) := fun h => HNM0.out (namedL_none (List.mem_of_getElem? ep) h)
      have HNS : Hid (∀ q, p.named f t = some q → namedL f t (ps.take (i + 1)) = some (qs ++ [q])) := fun q h => namedL_snoc hqs ep h
      obtain ⟨po, hpo⟩ : ∃ po, po = p.named f t := ⟨_, rfl⟩
      rw [← hpo] at C1 HNO HNS
      have HBX := Lib.hid bx
      obtain ⟨j, hj⟩ : ∃ j, j = i + 1 := ⟨_, rfl⟩
      rw [← hj] at HNS
      subst hA
      obtain ⟨ph, pn, pp⟩ := p
      simp only [varr, vv, hd_mk, names_mk, parts_mk] at z0 z1 z2 z3 z4 C1 RX hwx
      have rx := RX.out.cell
      clear ep hqs hnp hti hP bx hpo HNr
      go_wp2_with fail
      rw [← hwx]
      refine C1.out.mono ?_
      rintro e w3 hq
      clear C1 rx z0 z1 z2 z3 z4 hwx
      cases po with
      | none =>
        obtain ⟨h3, Zn, zn, ZA, za, he, _⟩ := hq
        change e = .returned (.tuple #[.agg #[.int .i64 0, .int .i64 0, .string ⟨#[]⟩, .slice Zn 0 zn, .slice ZA 0 za], .bool false]) at he
        subst he
        have h3' := HBX.out.trans (h3.mono HBX.out.size)
        have b4 := h3'.trans ((bel1 w3 (.cells #[.int .i64 0, .int .i64 0, .string ⟨#[]⟩, .slice Zn 0 zn, .slice ZA 0 za] 34)).mono h3'.size)
        have HR4 := Lib.hid (HRR.out.below b4 HRR.out.lt)
        have HB4 := Lib.hid (HBr.out.trans (b4.mono HBr.out.size))
        have HOO := Lib.hid (HNO.out (by first | rfl | trivial))
        obtain ⟨w4, hw4⟩ : ∃ w4, w4 = w3.alloc (.cells #[.int .i64 0, .int .i64 0, .string ⟨#[]⟩, .slice Zn 0 zn, .slice ZA 0 za] 34) := ⟨_, rfl⟩
        rw [← hw4] at HR4 HB4
        have hw4' := hw4
        clear h3 h3' b4 HNO HNS hw4
        go_upto_region 9 with fail
        rw [← hw4']
        clear hw4'
        have r4 := HR4.out.cell
        have r4t := HR4.out.thaw
        go_wp2_with fail
        refine bodyPost_ret (v := .tuple #[zv, .bool false]) ?_ rfl ⟨below_put5 HB4.out (Nat.le_succ _) _ _ _ _ _, none, 0, none, 0, by rw [HOO.out]; rfl, by rw [HOO.out]; exact VI_iff.2 ⟨NV.nil _ _ _ _, VV.nil _ _ _ _⟩⟩
        simp [results, Tryd.results28, go_sem, r4]
        try first | rfl | exact ⟨rfl, rfl⟩
      | some q =>
        obtain ⟨h3, qN, qn, qV, qv, he, hq3⟩ := hq
        change e = .returned (.tuple #[vv q qN qn qV qv, .bool true]) at he
        change VI w3 _ q qN qn qV qv at hq3
        subst he
        have HNQ := Lib.hid (HNS.out q (by first | rfl | trivial))
        obtain ⟨qh, qns, qps⟩ := q
        have h3' := HBX.out.trans (h3.mono HBX.out.size)
        have b3 := bel1 w3 (.cells #[.int .i64 qh.kind, .int .i64 qh.n, .string qh.s, .slice qN qns.length qn, .slice qV qps.length qv] 34)
        have b4 := h3'.trans (b3.mono h3'.size)
        obtain ⟨w4, hw4⟩ : ∃ w4, w4 = w3.alloc (.cells #[.int .i64 qh.kind, .int .i64 qh.n, .string qh.s, .slice qN qns.length qn, .slice qV qps.length qv] 34) := ⟨_, rfl⟩
        have RQ : RowB w4 w3.heap.size 34 #[.int .i64 qh.kind, .int .i64 qh.n, .string qh.s, .slice qN qns.length qn, .slice qV qps.length qv] := by rw [hw4]; exact RowB.new w3 34 _
        rw [← hw4] at b3 b4
        have HRT4 := Lib.hid (HRT.out.below b4 HRT.out.lt)
        have HRR4 := Lib.hid (HRR.out.below b4 HRR.out.lt)
        have HB4 := Lib.hid (HBr.out.trans (b4.mono HBr.out.size))
        have HS4 : Hid (w.heap.size + 2 < w4.heap.size) := Nat.lt_of_lt_of_le hsr b4.size
        have hq4 : VI w4 (fun g => (P g ∧ g < w.heap.size) ∨ wr.heap.size ≤ g) (.mk qh qns qps) qN qn qV qv := (hq3.below b3).mono fun g hg => by
          rcases hg with h | h
          · exact .inl h
          · have := HBX.out.size
            exact .inr (by omega)
        have HNP4 := Lib.hid (HNPr.out.step HQL.out hi b4 (by omega) hq4)
        have hrow4 := HNPr.out.row.below b4 HNPr.out.row.lt
        have hcs := HNPr.out.size
        have hmul := Nat.mul_le_mul_right 5 (show i + 1 ≤ n from hi)
        obtain ⟨v0, k0⟩ : ∃ v, w4.cell? ⟨w.heap.size + 2, i * 5, none⟩ = some v := by rw [hrow4.cell]; exact ⟨_, Array.getElem?_eq_getElem (by omega)⟩
        obtain ⟨v1, k1⟩ : ∃ v, w4.cell? ⟨w.heap.size + 2, i * 5 + 1, none⟩ = some v := by rw [hrow4.cell]; exact ⟨_, Array.getElem?_eq_getElem (by omega)⟩
        obtain ⟨v2, k2⟩ : ∃ v, w4.cell? ⟨w.heap.size + 2, i * 5 + 2, none⟩ = some v := by rw [hrow4.cell]; exact ⟨_, Array.getElem?_eq_getElem (by omega)⟩
        obtain ⟨v3, k3⟩ : ∃ v, w4.cell? ⟨w.heap.size + 2, i * 5 + 3, none⟩ = some v := by rw [hrow4.cell]; exact ⟨_, Array.getElem?_eq_getElem (by omega)⟩
        obtain ⟨v4, k4⟩ : ∃ v, w4.cell? ⟨w.heap.size + 2, i * 5 + 4, none⟩ = some v := by rw [hrow4.cell]; exact ⟨_, Array.getElem?_eq_getElem (by omega)⟩
        have kt := hrow4.thaw
        have rq := RQ.cell
        have hw4' := hw4
        obtain ⟨G, hG⟩ : ∃ G, G = w.heap.size + 2 := ⟨_, rfl⟩
        have HG := Lib.hid hG
        rw [← hG] at k0 k1 k2 k3 k4 kt HNP4
        have hblk : ∀ g, g ≠ G → (((((((((((w4).setCell ⟨G, i * 5, none⟩ (.int .i64 qh.kind))).setCell ⟨G, i * 5 + 1, none⟩ (.int .i64 qh.n))).setCell ⟨G, i * 5 + 2, none⟩ (.string qh.s))).setCell ⟨G, i * 5 + 3, none⟩ (.slice qN qns.length qn))).setCell ⟨G, i * 5 + 4, none⟩ (.slice qV qps.length qv))).heap[g]? = w4.heap[g]? := fun g hg => by
          rw [Below.heap_setCell _ _ _ _ hg, Below.heap_setCell _ _ _ _ hg, Below.heap_setCell _ _ _ _ hg, Below.heap_setCell _ _ _ _ hg, Below.heap_setCell _ _ _ _ hg]
        have HRT5 : Hid (RowB (((((((((((w4).setCell ⟨G, i * 5, none⟩ (.int .i64 qh.kind))).setCell ⟨G, i * 5 + 1, none⟩ (.int .i64 qh.n))).setCell ⟨G, i * 5 + 2, none⟩ (.string qh.s))).setCell ⟨G, i * 5 + 3, none⟩ (.slice qN qns.length qn))).setCell ⟨G, i * 5 + 4, none⟩ (.slice qV qps.length qv))) w.heap.size 34 #[.int .i64 3, .int .i64 kn, .string ks, .slice An m cn, .slice (some ⟨g, oo, none⟩) n c]) := (hblk _ (by omega)).trans HRT4.out
        have HRR5 : Hid (RowB (((((((((((w4).setCell ⟨G, i * 5, none⟩ (.int .i64 qh.kind))).setCell ⟨G, i * 5 + 1, none⟩ (.int .i64 qh.n))).setCell ⟨G, i * 5 + 2, none⟩ (.string qh.s))).setCell ⟨G, i * 5 + 3, none⟩ (.slice qN qns.length qn))).setCell ⟨G, i * 5 + 4, none⟩ (.slice qV qps.length qv))) (w.heap.size + 1) 34 zvc) := (hblk _ (by omega)).trans HRR4.out
        have HB5 : Hid (Below w.heap.size w (((((((((((w4).setCell ⟨G, i * 5, none⟩ (.int .i64 qh.kind))).setCell ⟨G, i * 5 + 1, none⟩ (.int .i64 qh.n))).setCell ⟨G, i * 5 + 2, none⟩ (.string qh.s))).setCell ⟨G, i * 5 + 3, none⟩ (.slice qN qns.length qn))).setCell ⟨G, i * 5 + 4, none⟩ (.slice qV qps.length qv)))) := (((((HB4.out.setCell (p := ⟨G, i * 5, none⟩) (by show w.heap.size ≤ G; omega) _).setCell (p := ⟨G, i * 5 + 1, none⟩) (by show w.heap.size ≤ G; omega) _).setCell (p := ⟨G, i * 5 + 2, none⟩) (by show w.heap.size ≤ G; omega) _).setCell (p := ⟨G, i * 5 + 3, none⟩) (by show w.heap.size ≤ G; omega) _).setCell (p := ⟨G, i * 5 + 4, none⟩) (by show w.heap.size ≤ G; omega) _)
        have HS5 : Hid (w.heap.size + 2 < (((((((((((w4).setCell ⟨G, i * 5, none⟩ (.int .i64 qh.kind))).setCell ⟨G, i * 5 + 1, none⟩ (.int .i64 qh.n))).setCell ⟨G, i * 5 + 2, none⟩ (.string qh.s))).setCell ⟨G, i * 5 + 3, none⟩ (.slice qN qns.length qn))).setCell ⟨G, i * 5 + 4, none⟩ (.slice qV qps.length qv))).heap.size) := by have := HS4.out; unfold Hid; simp [World.setCell]; omega
        clear h3 h3' b3 b4 HNO HNS hw4 hq3 hq4 hrow4 hcs hmul RQ hblk HNPr hsr
        go_upto_region 10 with fail
        rw [← hw4']
        clear hw4'
        rw [← hG]
        clear hG
        go_wp2_with fail
        obtain rfl := HG.out
        go_roundg (n - j)
        case measure => omega
        case rel => exact ⟨j, by rw [hj]; go_num, by omega, by omega, HRT5.out, HRR5.out, HB5.out, HS5.out, _, _, HNQ.out, HNP4.out⟩
    · have hil : ¬ (i : Int) < (n : Int) := by omega
      obtain rfl : n = i := by omega
      have hql : qs.length = n := by have := namedL_len hqs; rw [List.length_take] at this; have h2 := HN.out; omega
      have htk : namedL f t ps = some qs := by rw [List.take_of_length_le (by rw [← HN.out]; exact Nat.le_refl _)] at hqs; exact hqs
      have HOO := Lib.hid (HNM1.out qs htk)
      have C1 := renamed_any wr ns f t HHT.out _ An cn (HNV.out.below HBr.out) (by rw [← HM.out]; exact hm1)
      rw [← HM.out] at C1
      have CR := Lib.hid C1
      have HVQ := Lib.hid (hnp.fin hql)
      have HQL := Lib.hid hql
      have rT := HRT.out.cell
      clear hqs hnp hql htk C1 HNr HNPr HQS HNM1 HNM0 hi HI HNP
      go_wp2_with fail
      refine CR.out.mono ?_
      rintro e w5 ⟨A5, c5, rfl, hn5, h5⟩
      have hB5 := HBr.out.trans (h5.mono HBr.out.size)
      have C2 := record_any w5 (ns.map (ren f t)) qs (fun g => (P g ∧ g < w.heap.size) ∨ w.heap.size + 2 ≤ g) A5 c5 (some ⟨w.heap.size + 2, 0, none⟩) n (hn5.mono fun g hg => .inr (by omega)) (HVQ.out.below h5) (by rw [List.length_map, ← HM.out]; exact hm1)
      rw [List.length_map, ← HM.out, HQL.out] at C2
      have CREC := Lib.hid C2
      have HB5 := Lib.hid hB5
      have HRR5 := Lib.hid (HRR.out.below h5 HRR.out.lt)
      have HS5 : Hid (w.heap.size + 2 < w5.heap.size) := Nat.lt_of_lt_of_le hsr h5.size
      clear hn5 h5 hB5 C2 CR rT
      go_wp2_with fail
      refine CREC.out.mono ?_
      rintro e w6 ⟨u, Bn, dn, B, d, z, rfl, hu, h6, hz⟩
      have hres : (z == 0) = o.isSome ∧ (∀ u', o = some u' → u' = u) ∧ (o = none → u = zero) := by
        rw [HOO.out]
        rcases hz with ⟨rfl, h1, rfl⟩ | ⟨rfl, h1, h2, rfl⟩ | ⟨rfl, h1, h2, hrec⟩
        · rw [recO_none (.inl h1)]
          exact ⟨rfl, fun _ h => (by cases h), fun _ => rfl⟩
        · rw [recO_none (.inr h2)]
          exact ⟨rfl, fun _ h => (by cases h), fun _ => rfl⟩
        · rw [recO_is.2 ⟨h1, h2, hrec⟩]
          exact ⟨rfl, fun _ h => (by injection h with h; exact h.symm), fun h => (by cases h)⟩
      obtain ⟨hz0, hsome, hnone⟩ := hres
      have HSO := Lib.hid hsome
      have HNN := Lib.hid hnone
      obtain ⟨uh, un, up⟩ := u
      obtain ⟨w7, hw7⟩ : ∃ w7, w7 = w6.alloc (.cells (varr uh Bn un.length dn B up.length d) 34) := ⟨_, rfl⟩
      have b7 : Below w6.heap.size w6 w7 := by rw [hw7]; exact bel1 w6 _
      have R7 : RowB w7 w6.heap.size 34 (varr uh Bn un.length dn B up.length d) := by rw [hw7]; exact RowB.new w6 34 _
      have h57 := h6.trans (b7.mono h6.size)
      have HB7 := Lib.hid (HB5.out.trans (h57.mono HB5.out.size))
      have HU7 : Hid (VI w7 (fun g => (P g ∧ g < w.heap.size) ∨ w.heap.size + 2 ≤ g) (.mk uh un up) Bn dn B d) := (hu.below b7).mono fun g hg => by
        rcases hg with h | h
        · exact h
        · have := HS5.out
          exact .inr (by omega)
      have HRR7 := Lib.hid (HRR5.out.below h57 HRR5.out.lt)
      have hw7' := hw7
      simp only [varr] at hw7'
      have r7 := R7.cell
      clear hz hsome hnone hu h6 hw7 b7 R7 h57 CREC
      go_upto_region 13 with fail
      rw [← hw7']
      clear hw7'
      have rr := HRR7.out.cell
      have rrt := HRR7.out.thaw
      go_wp2_with fail
      refine bodyPost_ret (v := .tuple #[vv (.mk uh un up) Bn dn B d, .bool o.isSome]) ?_ rfl ⟨below_put5 HB7.out (Nat.le_succ _) _ _ _ _ _, ?_⟩
      · simp [results, Tryd.results28, go_sem, rr]
        try first | rfl | exact ⟨rfl, rfl⟩
      · have hu7 := HU7.out
        have hg : o.getD zero = .mk uh un up := by
          cases o with
          | none => exact (HNN.out rfl).symm
          | some u' => exact HSO.out u' rfl
        exact ⟨Bn, dn, B, d, by rw [hg], by rw [hg]; exact VI.put5 hu7 (fun g hg => ⟨by rcases hg with h | h; exact .inl h.1; exact .inr (by omega), by rcases hg with h | h <;> omega⟩) _ _ _ _ _⟩
theorem pnamed_any (f t : ByteArray) (ht : t.size ≤ 140737488351232) : ∀ v : Vl, v.cnt ≤ 1000001 → ∀ (w : World) (P : Nat → Prop) (An : Option Addr) (cn : Nat) (A : Option Addr) (c : Nat), VI w P v An cn A c → Calls Tryd.prog 28 #[vv v An cn A c, .string f, .string t] w (NmQ P (v.named f t) w) := by
  refine Vl.ind fun k ns ps ih hc w P An cn A c h => ?_
  rw [Vl.cnt] at hc
  have e1 := cntL_len ps
  by_cases hk : k.kind = 3
  · have hh := VI_iff.1 h
    exact pnamed_step f t ht k hk ns ps (by omega) (by omega) (fun p hp w P An cn A c h => ih p hp (by have := cnt_mem hp; omega) w P An cn A c h) w P An cn A c hh.1 hh.2
  · exact pnamed_leaf f t k hk ns ps w P An cn A c h
end Vm
end Go.Proofs.YtbjlhdjcdinmhaaDoor
