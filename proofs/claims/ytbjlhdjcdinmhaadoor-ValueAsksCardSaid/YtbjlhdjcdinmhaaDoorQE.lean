/- Contracts: values carried from the document's kind to the program's, and back. -/
import Derived.Test.YtbjlhdjcdinmhaaDoorQB
import Derived.Test.YtbjlhdjcdinmhaaDoorQD
namespace Go.Proofs.YtbjlhdjcdinmhaaDoor
open Go.RowKit Go.Op
namespace Vm
abbrev zv : Value := .agg #[.int .i64 0, .int .i64 0, .string ⟨#[]⟩, .slice none 0 0, .slice none 0 0]
abbrev zvc : Array Value := #[.int .i64 0, .int .i64 0, .string ⟨#[]⟩, .slice none 0 0, .slice none 0 0]
abbrev varr (h : VH) (An : Option Addr) (m cn : Nat) (A : Option Addr) (n c : Nat) : Array Value := #[.int .i64 h.kind, .int .i64 h.n, .string h.s, .slice An m cn, .slice A n c]
theorem info25 : (Tryd.prog.info? 25).map (fun i => (i.zero, i.size, i.bytes)) = some (some zv, 5, 80) := by kernel_rfl
theorem info34 : (Tryd.prog.info? 34).map (fun i => (i.zero, i.size, i.bytes)) = some (some zv, 5, 80) := by kernel_rfl
theorem info9 : (Tryd.prog.info? 9).map (fun i => (i.zero, i.size, i.bytes)) = some (some (.string ⟨#[]⟩), 1, 16) := by kernel_rfl
theorem NV.low {w : World} {P : Nat → Prop} {ns : List ByteArray} {A : Option Addr} {c : Nat} (h : NV w P ns A c) : NV w (fun g => P g ∧ g < w.heap.size) ns A c := h.keep (Nat.le_refl _) fun _g hg hl => ⟨rfl, hg, hl⟩
theorem VV.low {w : World} {P : Nat → Prop} {ps : List Vl} {A : Option Addr} {c : Nat} (h : VV w P ps A c) : VV w (fun g => P g ∧ g < w.heap.size) ps A c := h.keep (Nat.le_refl _) fun _g hg hl => ⟨rfl, hg, hl⟩
theorem VI.low {w : World} {P : Nat → Prop} {v : Vl} {An : Option Addr} {cn : Nat} {A : Option Addr} {c : Nat} (h : VI w P v An cn A c) : VI w (fun g => P g ∧ g < w.heap.size) v An cn A c := h.keep (Nat.le_refl _) fun _g hg hl => ⟨rfl, hg, hl⟩
theorem VL.keep1 {w w' : World} {P : Nat → Prop} {ts : List Vl} {cs : List Value} (h : VL w P ts cs) (hs : w.heap.size ≤ w'.heap.size) (hb : ∀ g, P g → g < w.heap.size → w'.heap[g]? = w.heap[g]?) : VL w' P ts cs :=
  VL.keep hs (fun g hg hl => ⟨hb g hg hl, hg⟩) ts cs h
theorem own_bel2 {w w' : World} {base e s n : Nat} {v : Value} {xs : List Value} (h : w.ownsRow base e s v n xs) (hb : Below w.heap.size w w') : w'.ownsRow base e s v n xs := by
  have hlt := h.lt
  refine ⟨h.1, ?_⟩
  rcases h.2 with ⟨hv, hn⟩ | ⟨g, cap, cur, rfl, h1, h2, h3⟩
  · exact .inl ⟨hv, hn⟩
  · exact .inr ⟨g, cap, cur, rfl, h1, (hb.block g (hlt g rfl).2).trans h2, h3⟩
/-- Five cells stored. -/
def put5 (x : World) (R : Nat) (u0 u1 u2 u3 u4 : Value) : World := ((((x.setCell ⟨R, 0, none⟩ u0).setCell ⟨R, 1, none⟩ u1).setCell ⟨R, 2, none⟩ u2).setCell ⟨R, 3, none⟩ u3).setCell ⟨R, 4, none⟩ u4
theorem put5_size (x : World) (R : Nat) (u0 u1 u2 u3 u4 : Value) : (put5 x R u0 u1 u2 u3 u4).heap.size = x.heap.size := by simp [put5, World.setCell]
theorem put5_block (x : World) (R : Nat) (u0 u1 u2 u3 u4 : Value) {g : Nat} (h : g ≠ R) : (put5 x R u0 u1 u2 u3 u4).heap[g]? = x.heap[g]? := by
  unfold put5
  rw [Below.heap_setCell _ _ _ _ h, Below.heap_setCell _ _ _ _ h, Below.heap_setCell _ _ _ _ h, Below.heap_setCell _ _ _ _ h, Below.heap_setCell _ _ _ _ h]
theorem below_put5 {B : Nat} {a w : World} (h : Below B a w) {g : Nat} (hg : B ≤ g) (u0 u1 u2 u3 u4 : Value) : Below B a (put5 w g u0 u1 u2 u3 u4) :=
  ((((h.setCell (p := ⟨g, 0, none⟩) hg u0).setCell (p := ⟨g, 1, none⟩) hg u1).setCell (p := ⟨g, 2, none⟩) hg u2).setCell (p := ⟨g, 3, none⟩) hg u3).setCell (p := ⟨g, 4, none⟩) hg u4
theorem VI.put5 {w : World} {Q Q' : Nat → Prop} {R : Nat} {t : Vl} {An : Option Addr} {cn : Nat} {A : Option Addr} {c : Nat} (h : VI w Q t An cn A c) (hq : ∀ g, Q g → Q' g ∧ g ≠ R) (u0 u1 u2 u3 u4 : Value) :
    VI (put5 w R u0 u1 u2 u3 u4) Q' t An cn A c :=
  h.keep (by rw [put5_size]; exact Nat.le_refl _) fun g hg _ => ⟨put5_block _ _ _ _ _ _ _ (hq g hg).2, (hq g hg).1⟩
/-- What a call that makes a value answers. -/
def VMade (Q : Nat → Prop) (T : Vl) (w : World) (e : Ending) (w' : World) : Prop := Below w.heap.size w w' ∧ ∃ An cn A c, e = .returned (vv T An cn A c) ∧ VI w' Q T An cn A c
/-- Blocks of old memory that Q is said of, or new ones; but T and the row. -/
def gfr (B T : Nat) (Q : Nat → Prop) (v2 : Value) (g : Nat) : Prop := (Q g ∨ B ≤ g) ∧ g ≠ T ∧ v2.ownBlock ≠ some g
/-- Values as far as they have been laid; T turns. -/
structure GV (e : Nat) (W wa : World) (T : Nat) (Q : Nat → Prop) (v2 : Value) (tl : List Vl) (cs : List Value) : Prop where
  o2 : wa.ownsRow W.heap.size e 5 v2 tl.length cs
  tl : VL wa (gfr W.heap.size T Q v2) tl cs
  fr : Fr T W.heap.size W wa
section
variable {e : Nat} {W wa wb : World} {T : Nat} {Q : Nat → Prop} {v2 v2' : Value} {tl : List Vl} {cs : List Value} {t : Vl} {An : Option Addr} {cn : Nat} {A : Option Addr} {c : Nat}
theorem GV.start (e : Nat) (W : World) (T : Nat) (Q : Nat → Prop) : GV e W W T Q (.slice none 0 0) [] [] :=
  ⟨World.ownsRow_nil W _ e 5, by rw [VL], Fr.refl _ _ _⟩
theorem GV.below (h : GV e W wa T Q v2 tl cs) (hb : Below wa.heap.size wa wb) : GV e W wb T Q v2 tl cs :=
  ⟨own_bel2 h.o2 hb, h.tl.below hb, h.fr.step (.of hb)⟩
theorem GV.put (h : GV e W wa T Q v2 tl cs) (hT : T < W.heap.size) (j : Nat) (u : Value) : GV e W (wa.setCell ⟨T, j, none⟩ u) T Q v2 tl cs := by
  have hf : Fr T wa.heap.size wa (wa.setCell ⟨T, j, none⟩ u) := (Fr.refl T wa.heap.size wa).put j u
  exact ⟨hf.own h.o2 hT, h.tl.keep1 hf.size (fun g hp hl => hf.block g hl hp.2.1), h.fr.put j u⟩
theorem GV.pend (h : GV e W wa T Q v2 tl cs) (hQ : ∀ g, Q g → g < W.heap.size ∧ g ≠ T) (hT : T < W.heap.size) (ht : VI wb (fun g => Q g ∨ wa.heap.size ≤ g) t An cn A c) : VI wb (gfr W.heap.size T Q v2) t An cn A c :=
  ht.mono fun g hg => by
    have h1 := h.fr.size
    rcases hg with hg | hg
    · have := hQ g hg
      refine ⟨.inl hg, this.2, fun e => ?_⟩
      have := (h.o2.lt g e).1; omega
    · refine ⟨.inr (by omega), by omega, fun e => ?_⟩
      have := (h.o2.lt g e).2; omega
theorem GV.app (h : GV e W wa T Q v2 tl cs) (ht : VI wa (gfr W.heap.size T Q v2) t An cn A c) {g1 : Nat} (hown : wb.ownsRow W.heap.size e 5 v2' (tl.length + 1) (cs ++ vcs t An cn A c)) (hg : wa.grownBy wb v2.ownBlock)
    (hv : v2'.ownBlock = some g1) (hat : v2.ownBlock = some g1 ∨ g1 = wa.heap.size) : GV e W wb T Q v2' (tl ++ [t]) (cs ++ vcs t An cn A c) := by
  have key : ∀ g, gfr W.heap.size T Q v2 g → g < wa.heap.size → wb.heap[g]? = wa.heap[g]? ∧ gfr W.heap.size T Q v2' g := fun g hp hl => by
    refine ⟨hg.block g hl fun e => hp.2.2 e.symm, hp.1, hp.2.1, fun e => ?_⟩
    rw [hv] at e
    injection e with e
    subst e
    rcases hat with h | h
    · exact hp.2.2 h
    · omega
  exact ⟨by simpa using hown, VL.app _ _ (VL.keep hg.size key _ _ h.tl) (VL.one (ht.keep hg.size key)), h.fr.grown hg h.fr.size (fun k hk => (h.o2.lt k hk).1)⟩
theorem GV.out (h : GV e W wa T Q v2 tl cs) (hT : T < W.heap.size) : ∃ A c, v2 = .slice A tl.length c ∧ VV wa (fun g => (Q g ∨ W.heap.size ≤ g) ∧ g ≠ T) tl A c := by
  obtain ⟨A, c, e2, c2⟩ := own_shape h.o2
  have o2 := h.o2
  rw [e2] at o2
  exact ⟨A, c, e2, VV.of_own o2 rfl h.tl (fun g hg => ⟨hg.1, hg.2.1⟩) (fun g hg _ => ⟨.inr hg, by omega⟩) c2⟩
end

set_option maxHeartbeats 8000000 in
set_option maxRecDepth 100000 in
theorem to_step (h : VH) (ns : List ByteArray) (ps : List Vl) (hl : ps.length ≤ 1000001)
    (IH : ∀ p ∈ ps, ∀ (w : World) (P : Nat → Prop) (An : Option Addr) (cn : Nat) (A : Option Addr) (c : Nat), VI w P p An cn A c → Calls Tryd.prog 12 #[vv p An cn A c] w (VMade (fun g => P g ∨ w.heap.size ≤ g) p w))
    (w : World) (P : Nat → Prop) (An : Option Addr) (cn : Nat) (A : Option Addr) (c : Nat) (hN : NV w P ns An cn) (hV : VV w P ps A c) :
    Calls Tryd.prog 12 #[.agg #[.int .i64 h.kind, .int .i64 h.n, .string h.s, .slice An ns.length cn, .slice A ps.length c]] w (VMade (fun g => P g ∨ w.heap.size ≤ g) (.mk h ns ps) w) := by
  replace hN := hN.low
  replace hV := hV.low
  obtain ⟨m, hm⟩ : ∃ m, m = ns.length := ⟨_, rfl⟩
  obtain ⟨n, hn⟩ : ∃ n, n = ps.length := ⟨_, rfl⟩
  have HM := Lib.hid hm
  have HN := Lib.hid hn
  rw [← hm, ← hn]
  rw [← hn] at hl
  have b1 := bel1 w (.cells (varr h An m cn A n c) 25)
  obtain ⟨w1, h1⟩ : ∃ w1, w1 = w.alloc (.cells (varr h An m cn A n c) 25) := ⟨_, rfl⟩
  have s1 : w1.heap.size = w.heap.size + 1 := by rw [h1]; simp
  have R1 : RowB w1 w.heap.size 25 (varr h An m cn A n c) := by rw [h1]; exact RowB.new w 25 _
  rw [← h1] at b1
  obtain ⟨w2, h2⟩ : ∃ w2, w2 = w1.alloc (.cells zvc 34) := ⟨_, rfl⟩
  have b2 : Below w1.heap.size w1 w2 := by rw [h2]; exact bel1 w1 _
  have s2 : w2.heap.size = w.heap.size + 2 := by rw [h2]; simp [s1]
  have R2 : RowB w2 (w.heap.size + 1) 34 zvc := by rw [h2, ← s1]; exact RowB.new w1 34 _
  obtain ⟨W, h3⟩ : ∃ W, W = w2.alloc (.cells #[.int .i64 h.kind, .int .i64 h.n, .string h.s, .slice An m cn, .slice none 0 0] 34) := ⟨_, rfl⟩
  have b3 : Below w2.heap.size w2 W := by rw [h3]; exact bel1 w2 _
  have s3 : W.heap.size = w.heap.size + 3 := by rw [h3]; simp [s2]
  have R3 : RowB W (w.heap.size + 2) 34 #[.int .i64 h.kind, .int .i64 h.n, .string h.s, .slice An m cn, .slice none 0 0] := by rw [h3, ← s2]; exact RowB.new w2 34 _
  have b23 := b2.trans (b3.mono b2.size)
  have b13 := b1.trans (b23.mono b1.size)
  have e3 : W = ((w.alloc (.cells (varr h An m cn A n c) 25)).alloc (.cells zvc 34)).alloc (.cells #[.int .i64 h.kind, .int .i64 h.n, .string h.s, .slice An m cn, .slice none 0 0] 34) := by rw [h3, h2, h1]
  have R1W := Lib.hid (R1.below b23 R1.lt)
  have R2W := Lib.hid (R2.below b3 R2.lt)
  have HB := Lib.hid b13
  have HNW := Lib.hid (hN.below b13)
  have HVW := Lib.hid (hV.below b13)
  have HI := Lib.hid IH
  have hT : w.heap.size + 2 < W.heap.size := by omega
  have HS3 : Hid (W.heap.size = w.heap.size + 3) := s3
  obtain ⟨T, hTe⟩ : ∃ T, T = w.heap.size + 2 := ⟨_, rfl⟩
  have hQl : ∀ g, (P g ∧ g < w.heap.size) → g < W.heap.size ∧ g ≠ T := fun g hg => ⟨by omega, by omega⟩
  have HTe := Lib.hid hTe
  rw [← hTe] at R3 hT
  have RT := Lib.hid R3
  clear hN hV b1 b2 b3 b23 b13 h1 h2 h3 s1 s2 s3 R1 R2 R3 IH hm hn w1 w2
  have q1 := R1W.out.cell
  go_enter Tryd.func12, Tryd.ntmps12
  go_wp2_with fail
  rw [← e3]
  try rw [show w.heap.size + 1 + 1 = T from hTe.symm]
  clear e3 hTe
  go_loopg [18] (n + 1) (fun kx s18 wr => ∃ i : Nat, s18 = .int .i64 i ∧ n - i ≤ kx ∧ i ≤ n ∧ Hid (∃ v2 cs, GV 34 W wr T (fun g => P g ∧ g < w.heap.size) v2 (ps.take i) cs ∧ RowB wr T 34 #[.int .i64 h.kind, .int .i64 h.n, .string h.s, .slice An m cn, v2]))
  case atStart => exact ⟨0, rfl, by omega, by omega, ⟨_, _, GV.start _ W T _, RT.out⟩⟩
  case round =>
    obtain ⟨i, rfl, hkx, hin, x2, cs, hgv, hrow⟩ := hrel
    by_cases hi : i < n
    · have hil : (i : Int) < (n : Int) := by omega
      obtain ⟨p, ep⟩ := get_lt (l := ps) (i := i) (by rw [← HN.out]; exact hi)
      have hkk : ∀ g, (P g ∧ g < w.heap.size) → wr.heap[g]? = W.heap[g]? := fun g hg => hgv.fr.block g (hQl g hg).1 (hQl g hg).2
      obtain ⟨g, o, Cn, fn, C, f, hA, hP, hg, hti, a0, a1, a2, a3, a4⟩ := (show VV wr (fun g => P g ∧ g < w.heap.size) ps A c from HVW.out.keep hgv.fr.size fun g hg _ => ⟨hkk g hg, hg⟩).nth ep
      obtain ⟨j, hj⟩ : ∃ j, j = i + 1 := ⟨_, rfl⟩
      have HTK : Hid (ps.take j = ps.take i ++ [p]) := by unfold Hid; rw [hj, List.take_add_one, ep]; rfl
      have HM2 := Lib.hid (List.mem_of_getElem? ep)
      have hln : (ps.take i).length = i := by rw [List.length_take]; have := HN.out; omega
      obtain ⟨tl, htl⟩ : ∃ tl, tl = ps.take i := ⟨_, rfl⟩
      rw [← htl] at hgv HTK hln
      have hl2 : tl.length ≤ 1000001 := by omega
      obtain ⟨w2, hw2⟩ : ∃ w2, w2 = wr.alloc (.cells (varr p.hd Cn p.names.length fn C p.parts.length f) 25) := ⟨_, rfl⟩
      have bx : Below wr.heap.size wr w2 := by rw [hw2]; exact bel1 wr _
      have RX : Hid (RowB w2 wr.heap.size 25 (varr p.hd Cn p.names.length fn C p.parts.length f)) := by rw [hw2]; exact RowB.new wr 25 _
      have HQ2 := Lib.hid (hgv.below bx)
      have HT2 := Lib.hid (hrow.below bx hrow.lt)
      have D2 : Below w2.heap.size w2 w2.drew := Below.drew (Below.refl _ _)
      have C8 := Lib.hid (HI.out p HM2.out w2.drew _ Cn fn C f (hti.below (bx.trans (D2.mono bx.size))))
      subst hA
      obtain ⟨⟨kp, kn, ks⟩, np, pp⟩ := p
      simp only [varr, vv, hd_mk, names_mk, parts_mk] at a0 a1 a2 a3 a4 hw2 RX C8
      have e8 := hw2
      have rt := hrow.cell
      clear ep hti hkk hgv hrow htl hln bx hw2
      go_wp2_with fail
      go_upto_region 5 with fail
      rw [← e8]
      clear e8 rt a0 a1 a2 a3 a4
      obtain ⟨iT, hiT, hzT, hsT, hbT⟩ := info_parts info34
      have A2 := HQ2.out.below D2
      have RT2 : RowB w2.drew T 34 #[.int .i64 h.kind, .int .i64 h.n, .string h.s, .slice An m cn, x2] := HT2.out
      have hlx : wr.heap.size < w2.drew.heap.size := RX.out.lt
      have RXd : RowB w2.drew wr.heap.size 25 #[.int .i64 kp, .int .i64 kn, .string ks, .slice Cn np.length fn, .slice C pp.length f] := RX.out
      have cx := RXd.cell
      have bb3 : tl.length + 1 ≤ maxLen := by unfold maxLen; omega
      have bb4 : (tl.length + 1) * 80 ≤ 140737488355328 := by omega
      have eT2 : (some T : Option Nat) ≠ x2.ownBlock := fun e => by have := (A2.o2.lt _ e.symm).1; omega
      refine wp_region_G (S := SG (fun w' => Fr T W.heap.size W w') 3 (fun w' => ∀ j, w'.cell? ⟨wr.heap.size, j, none⟩ = (#[Value.int .i64 kp, .int .i64 kn, .string ks, .slice Cn np.length fn, .slice C pp.length f])[j]?) 5 (fun w' => w'.cell? ⟨T, 4, none⟩ = some x2)) (by kernel_rfl) ⟨A2.fr, fun _ => cx, fun _ => RT2.cell 4⟩ (fun hS => ?_)
      refine wpG_take0 (i := 0) (v := ?v1) rfl (by kernel_rfl) (by kernel_rfl) (by kernel_rfl) (by decide) (by decide) (fun _ _ _ h => h) hS (Or.inl ⟨by rfl, ?hy1⟩) ?rest1
      case hy1 => (intro w' hw; go_simp; try with_reducible rfl)
      replace hS := SG.set (i := 0) (by decide) (by decide) hS
      try simp only [Act.put, List.setIfInBounds_toArray, List.set_cons_zero, List.set_cons_succ]
      refine wpG_take2 (i := 1) (v := ?v2) rfl (by kernel_rfl) (by kernel_rfl) (by kernel_rfl) (by decide) (by decide) (by kernel_rfl) (by kernel_rfl) (fun _ _ _ h => h) hS (Or.inl ⟨by rfl, ?hy2⟩) ?rest2
      case hy2 => (intro w' hw; obtain ⟨_, u9⟩ := hw; go_simp; try with_reducible rfl)
      replace hS := SG.set (i := 1) (by decide) (by decide) hS
      try simp only [Act.put, List.setIfInBounds_toArray, List.set_cons_zero, List.set_cons_succ]
      refine wpG_take1 (i := 2) (v := ?v3) rfl (by kernel_rfl) (by kernel_rfl) (by kernel_rfl) (by decide) (by decide) (by kernel_rfl) (by kernel_rfl) (fun _ _ _ h => h) hS (Or.inl ⟨by rfl, ?hy3⟩) ?rest3
      case hy3 => (intro w' hw; obtain ⟨_, u9⟩ := hw; go_simp; try with_reducible rfl)
      replace hS := SG.set (i := 2) (by decide) (by decide) hS
      try simp only [Act.put, List.setIfInBounds_toArray, List.set_cons_zero, List.set_cons_succ]
      refine wpG_ready (rs := [3]) (by kernel_rfl) (by simp) ?_
      refine RG.cons rfl rfl (fun K hK => ?_) RG.nil
      go_simp
      refine C8.out.mono ?_
      rintro e w3 ⟨h3, An5, cn5, A5, c5, rfl, ht5⟩
      go_wp2_with fail
      have Q3 := A2.below h3
      have T3 := RT2.below h3 RT2.lt
      refine hK.out _ _ ⟨Q3.fr, fun h => absurd (h : true = false) (by decide), fun _ => T3.cell 4⟩ (fun hS => ?_)
      clear hK K
      try simp only [Act.put, List.setIfInBounds_toArray, List.set_cons_zero, List.set_cons_succ]
      have Q3a := Q3.below (bel1 w3 (.cells #[Value.int .i64 kp, .int .i64 kn, .string ks, .slice An5 np.length cn5, .slice A5 pp.length c5] 34))
      have hti := (A2.pend hQl hT (ht5.mono (Q := fun g => (P g ∧ g < w.heap.size) ∨ w2.drew.heap.size ≤ g) fun g hg => hg)).below (bel1 w3 (.cells #[Value.int .i64 kp, .int .i64 kn, .string ks, .slice An5 np.length cn5, .slice A5 pp.length c5] 34))
      have oc2 : ∀ u ∈ (#[Value.int .i64 kp, .int .i64 kn, .string ks, .slice An5 np.length cn5, .slice A5 pp.length c5] : Array Value).toList, u.oneCell' = true := by simp [Value.oneCell']
      have hsz3 : W.heap.size ≤ (w3.alloc (.cells #[Value.int .i64 kp, .int .i64 kn, .string ks, .slice An5 np.length cn5, .slice A5 pp.length c5] 34)).heap.size := Q3a.fr.size
      refine wpG_ready (rs := [4]) (by kernel_rfl) (by simp) ?_
      refine RG.cons rfl rfl (fun K hK => ?_) RG.nil
      go_simp
      refine hK.out _ _ ⟨Q3a.fr, fun h => absurd (h : true = false) (by decide), fun _ => (T3.alloc _).cell 4⟩ (fun hS => ?_)
      clear hK K
      try simp only [Act.put, List.setIfInBounds_toArray, List.set_cons_zero, List.set_cons_succ]
      refine wpG_ready (rs := [5]) (by kernel_rfl) (by simp) ?_
      refine RG.cons rfl rfl (fun K hK => ?_) RG.nil
      refine wp_append_lies (w3.alloc (.cells #[Value.int .i64 kp, .int .i64 kn, .string ks, .slice An5 np.length cn5, .slice A5 pp.length c5] 34)) (.tmp 23) (.tmp 26) 32 (by rfl) W.heap.size 34 iT _ 5 80 Tryd.underlying32 hiT hzT hsT hbT rfl (by omega) x2 tl.length cs (by rfl) Q3a.o2 ⟨w3.heap.size, 0, none⟩ 1 1 (#[Value.int .i64 kp, .int .i64 kn, .string ks, .slice An5 np.length cn5, .slice A5 pp.length c5] : Array Value).toList (by rfl) (by rfl) (World.news_of_block (RowB.new w3 34 #[Value.int .i64 kp, .int .i64 kn, .string ks, .slice An5 np.length cn5, .slice A5 pp.length c5])) oc2 (by omega) bb3 bb4 hsz3 _ rfl ?_
      intro gb capb w5 hown2 hgrow2 hat2 hlt2'
      have Q5 := Q3a.app hti hown2 hgrow2 rfl hat2
      have T5r := (T3.alloc (.cells #[Value.int .i64 kp, .int .i64 kn, .string ks, .slice An5 np.length cn5, .slice A5 pp.length c5] 34)).grown hgrow2 eT2
      clear hown2 hgrow2 hat2
      refine hK.out _ _ ⟨Q5.fr, fun h => absurd (h : true = false) (by decide), fun h => absurd (h : true = false) (by decide)⟩ (fun hS => ?_)
      clear hK K
      try simp only [Act.put, List.setIfInBounds_toArray, List.set_cons_zero, List.set_cons_succ]
      refine wpG_take0 (i := 6) (v := ?v4) rfl (by kernel_rfl) (by kernel_rfl) (by kernel_rfl) (by decide) (by decide) (fun _ _ _ h => h) hS (Or.inl ⟨by rfl, ?hy4⟩) ?rest4
      case hy4 => (intro w' hw; go_simp; try with_reducible rfl)
      replace hS := SG.set (i := 6) (by decide) (by decide) hS
      try simp only [Act.put, List.setIfInBounds_toArray, List.set_cons_zero, List.set_cons_succ]
      refine wpG_ready (rs := [7]) (by kernel_rfl) (by simp) ?_
      refine RG.cons rfl rfl (fun K hK => ?_) RG.nil
      have zt1 := T5r.cell
      have zt1t := T5r.thaw
      go_simp
      clear zt1 zt1t
      refine hK.out _ _ ⟨(Q5.put hT 4 _).fr, fun h => absurd (h : true = false) (by decide), fun h => absurd (h : true = false) (by decide)⟩ (fun hS => ?_)
      clear hK K
      try simp only [Act.put, List.setIfInBounds_toArray, List.set_cons_zero, List.set_cons_succ]
      refine wpG_done (by kernel_rfl) ?_ _
      have HFIN : Hid (∃ v2 cs, GV 34 W (w5.setCell ⟨T, 4, none⟩ (.slice (some ⟨gb, 0, none⟩) (tl.length + 1) capb)) T (fun g => P g ∧ g < w.heap.size) v2 (ps.take j) cs ∧ RowB (w5.setCell ⟨T, 4, none⟩ (.slice (some ⟨gb, 0, none⟩) (tl.length + 1) capb)) T 34 #[.int .i64 h.kind, .int .i64 h.n, .string h.s, .slice An m cn, v2]) := by
        unfold Hid
        have hf := Q5.put hT 4 (.slice (some ⟨gb, 0, none⟩) (tl.length + 1) capb)
        rw [HTK.out]
        exact ⟨_, _, hf, T5r.put 4 _⟩
      clear A2 RT2 Q3 T3 Q3a hti Q5 T5r hS h3 ht5 D2 bb3 bb4 eT2 oc2 hsz3 C8 HQ2 HT2 cx RXd
      go_wp2_with fail
      go_roundg (n - j)
      case measure => omega
      case rel => exact ⟨j, by rw [hj]; go_num, by omega, by omega, HFIN.out⟩
    · have hil : ¬ (i : Int) < (n : Int) := by omega
      obtain rfl : n = i := by omega
      rw [List.take_of_length_le (by rw [← HN.out]; exact Nat.le_refl _)] at hgv
      obtain ⟨A', c', e2, hvv⟩ := hgv.out hT
      rw [← HN.out] at e2
      have Z2 := Lib.hid (hgv.fr.row R2W.out (by have := HS3.out; omega) (by have := HTe.out; omega))
      have HBF : Hid (Below w.heap.size w wr) := HB.out.trans (hgv.fr.below (by have := HS3.out; omega) (by have := HTe.out; omega))
      have HNF : Hid (NV wr (fun g => P g ∧ g < w.heap.size) ns An cn) := HNW.out.keep hgv.fr.size fun g hg _ => ⟨hgv.fr.block g (hQl g hg).1 (hQl g hg).2, hg⟩
      have HVF := Lib.hid hvv
      have z2 := Z2.out.cell
      have z2t := Z2.out.thaw
      have zT := hrow.cell
      have hltT : T < wr.heap.size := hrow.lt
      subst e2
      clear hvv hgv hrow hi
      go_wp2_with fail
      refine bodyPost_ret (v := .agg #[.int .i64 h.kind, .int .i64 h.n, .string h.s, .slice An m cn, .slice A' n c']) ?_ rfl ⟨below_put5 HBF.out (by omega) _ _ _ _ _, An, cn, A', c', by rw [HM.out, HN.out]; rfl, ?_⟩
      · simp [results, Tryd.results12, go_sem, z2]
        try first | rfl | exact ⟨rfl, rfl⟩
      · refine VI.put5 (Q := fun g => ((P g ∧ g < w.heap.size) ∨ W.heap.size ≤ g)) (VI_iff.2 ⟨HNF.out.mono fun g hg => .inl hg, HVF.out.mono fun g hg => hg.1⟩) (fun g hg => ?_) _ _ _ _ _
        rcases hg with h | h
        · exact ⟨.inl h.1, by have := h.2; omega⟩
        · exact ⟨.inr (by have := HS3.out; omega), by have := HS3.out; omega⟩
theorem to_any : ∀ v : Vl, v.cnt ≤ 1000001 → ∀ (w : World) (P : Nat → Prop) (An : Option Addr) (cn : Nat) (A : Option Addr) (c : Nat), VI w P v An cn A c → Calls Tryd.prog 12 #[vv v An cn A c] w (VMade (fun g => P g ∨ w.heap.size ≤ g) v w) := by
  refine Vl.ind fun h ns ps ih hc w P An cn A c hv => ?_
  rw [Vl.cnt] at hc
  have e1 := cntL_len ps
  have hk := VI_iff.1 hv
  exact to_step h ns ps (by omega) (fun p hp w P An cn A c h => ih p hp (by have := cnt_mem hp; omega) w P An cn A c h) w P An cn A c hk.1 hk.2

set_option maxHeartbeats 8000000 in
set_option maxRecDepth 100000 in
theorem from_step (h : VH) (ns : List ByteArray) (ps : List Vl) (hl : ps.length ≤ 1000001)
    (IH : ∀ p ∈ ps, ∀ (w : World) (P : Nat → Prop) (An : Option Addr) (cn : Nat) (A : Option Addr) (c : Nat), VI w P p An cn A c → Calls Tryd.prog 22 #[vv p An cn A c] w (VMade (fun g => P g ∨ w.heap.size ≤ g) p w))
    (w : World) (P : Nat → Prop) (An : Option Addr) (cn : Nat) (A : Option Addr) (c : Nat) (hN : NV w P ns An cn) (hV : VV w P ps A c) :
    Calls Tryd.prog 22 #[.agg #[.int .i64 h.kind, .int .i64 h.n, .string h.s, .slice An ns.length cn, .slice A ps.length c]] w (VMade (fun g => P g ∨ w.heap.size ≤ g) (.mk h ns ps) w) := by
  replace hN := hN.low
  replace hV := hV.low
  obtain ⟨m, hm⟩ : ∃ m, m = ns.length := ⟨_, rfl⟩
  obtain ⟨n, hn⟩ : ∃ n, n = ps.length := ⟨_, rfl⟩
  have HM := Lib.hid hm
  have HN := Lib.hid hn
  rw [← hm, ← hn]
  rw [← hn] at hl
  have b1 := bel1 w (.cells (varr h An m cn A n c) 34)
  obtain ⟨w1, h1⟩ : ∃ w1, w1 = w.alloc (.cells (varr h An m cn A n c) 34) := ⟨_, rfl⟩
  have s1 : w1.heap.size = w.heap.size + 1 := by rw [h1]; simp
  have R1 : RowB w1 w.heap.size 34 (varr h An m cn A n c) := by rw [h1]; exact RowB.new w 34 _
  rw [← h1] at b1
  obtain ⟨w2, h2⟩ : ∃ w2, w2 = w1.alloc (.cells zvc 25) := ⟨_, rfl⟩
  have b2 : Below w1.heap.size w1 w2 := by rw [h2]; exact bel1 w1 _
  have s2 : w2.heap.size = w.heap.size + 2 := by rw [h2]; simp [s1]
  have R2 : RowB w2 (w.heap.size + 1) 25 zvc := by rw [h2, ← s1]; exact RowB.new w1 25 _
  obtain ⟨W, h3⟩ : ∃ W, W = w2.alloc (.cells #[.int .i64 h.kind, .int .i64 h.n, .string h.s, .slice An m cn, .slice none 0 0] 25) := ⟨_, rfl⟩
  have b3 : Below w2.heap.size w2 W := by rw [h3]; exact bel1 w2 _
  have s3 : W.heap.size = w.heap.size + 3 := by rw [h3]; simp [s2]
  have R3 : RowB W (w.heap.size + 2) 25 #[.int .i64 h.kind, .int .i64 h.n, .string h.s, .slice An m cn, .slice none 0 0] := by rw [h3, ← s2]; exact RowB.new w2 25 _
  have b23 := b2.trans (b3.mono b2.size)
  have b13 := b1.trans (b23.mono b1.size)
  have e3 : W = ((w.alloc (.cells (varr h An m cn A n c) 34)).alloc (.cells zvc 25)).alloc (.cells #[.int .i64 h.kind, .int .i64 h.n, .string h.s, .slice An m cn, .slice none 0 0] 25) := by rw [h3, h2, h1]
  have R1W := Lib.hid (R1.below b23 R1.lt)
  have R2W := Lib.hid (R2.below b3 R2.lt)
  have HB := Lib.hid b13
  have HNW := Lib.hid (hN.below b13)
  have HVW := Lib.hid (hV.below b13)
  have HI := Lib.hid IH
  have hT : w.heap.size + 2 < W.heap.size := by omega
  have HS3 : Hid (W.heap.size = w.heap.size + 3) := s3
  obtain ⟨T, hTe⟩ : ∃ T, T = w.heap.size + 2 := ⟨_, rfl⟩
  have hQl : ∀ g, (P g ∧ g < w.heap.size) → g < W.heap.size ∧ g ≠ T := fun g hg => ⟨by omega, by omega⟩
  have HTe := Lib.hid hTe
  rw [← hTe] at R3 hT
  have RT := Lib.hid R3
  clear hN hV b1 b2 b3 b23 b13 h1 h2 h3 s1 s2 s3 R1 R2 R3 IH hm hn w1 w2
  have q1 := R1W.out.cell
  go_enter Tryd.func22, Tryd.ntmps22
  go_wp2_with fail
  rw [← e3]
  try rw [show w.heap.size + 1 + 1 = T from hTe.symm]
  clear e3 hTe
  go_loopg [18] (n + 1) (fun kx s18 wr => ∃ i : Nat, s18 = .int .i64 i ∧ n - i ≤ kx ∧ i ≤ n ∧ Hid (∃ v2 cs, GV 25 W wr T (fun g => P g ∧ g < w.heap.size) v2 (ps.take i) cs ∧ RowB wr T 25 #[.int .i64 h.kind, .int .i64 h.n, .string h.s, .slice An m cn, v2]))
  case atStart => exact ⟨0, rfl, by omega, by omega, ⟨_, _, GV.start _ W T _, RT.out⟩⟩
  case round =>
    obtain ⟨i, rfl, hkx, hin, x2, cs, hgv, hrow⟩ := hrel
    by_cases hi : i < n
    · have hil : (i : Int) < (n : Int) := by omega
      obtain ⟨p, ep⟩ := get_lt (l := ps) (i := i) (by rw [← HN.out]; exact hi)
      have hkk : ∀ g, (P g ∧ g < w.heap.size) → wr.heap[g]? = W.heap[g]? := fun g hg => hgv.fr.block g (hQl g hg).1 (hQl g hg).2
      obtain ⟨g, o, Cn, fn, C, f, hA, hP, hg, hti, a0, a1, a2, a3, a4⟩ := (show VV wr (fun g => P g ∧ g < w.heap.size) ps A c from HVW.out.keep hgv.fr.size fun g hg _ => ⟨hkk g hg, hg⟩).nth ep
      obtain ⟨j, hj⟩ : ∃ j, j = i + 1 := ⟨_, rfl⟩
      have HTK : Hid (ps.take j = ps.take i ++ [p]) := by unfold Hid; rw [hj, List.take_add_one, ep]; rfl
      have HM2 := Lib.hid (List.mem_of_getElem? ep)
      have hln : (ps.take i).length = i := by rw [List.length_take]; have := HN.out; omega
      obtain ⟨tl, htl⟩ : ∃ tl, tl = ps.take i := ⟨_, rfl⟩
      rw [← htl] at hgv HTK hln
      have hl2 : tl.length ≤ 1000001 := by omega
      obtain ⟨w2, hw2⟩ : ∃ w2, w2 = wr.alloc (.cells (varr p.hd Cn p.names.length fn C p.parts.length f) 34) := ⟨_, rfl⟩
      have bx : Below wr.heap.size wr w2 := by rw [hw2]; exact bel1 wr _
      have RX : Hid (RowB w2 wr.heap.size 34 (varr p.hd Cn p.names.length fn C p.parts.length f)) := by rw [hw2]; exact RowB.new wr 34 _
      have HQ2 := Lib.hid (hgv.below bx)
      have HT2 := Lib.hid (hrow.below bx hrow.lt)
      have D2 : Below w2.heap.size w2 w2.drew := Below.drew (Below.refl _ _)
      have C8 := Lib.hid (HI.out p HM2.out w2.drew _ Cn fn C f (hti.below (bx.trans (D2.mono bx.size))))
      subst hA
      obtain ⟨⟨kp, kn, ks⟩, np, pp⟩ := p
      simp only [varr, vv, hd_mk, names_mk, parts_mk] at a0 a1 a2 a3 a4 hw2 RX C8
      have e8 := hw2
      have rt := hrow.cell
      clear ep hti hkk hgv hrow htl hln bx hw2
      go_wp2_with fail
      go_upto_region 5 with fail
      rw [← e8]
      clear e8 rt a0 a1 a2 a3 a4
      obtain ⟨iT, hiT, hzT, hsT, hbT⟩ := info_parts info25
      have A2 := HQ2.out.below D2
      have RT2 : RowB w2.drew T 25 #[.int .i64 h.kind, .int .i64 h.n, .string h.s, .slice An m cn, x2] := HT2.out
      have hlx : wr.heap.size < w2.drew.heap.size := RX.out.lt
      have RXd : RowB w2.drew wr.heap.size 34 #[.int .i64 kp, .int .i64 kn, .string ks, .slice Cn np.length fn, .slice C pp.length f] := RX.out
      have cx := RXd.cell
      have bb3 : tl.length + 1 ≤ maxLen := by unfold maxLen; omega
      have bb4 : (tl.length + 1) * 80 ≤ 140737488355328 := by omega
      have eT2 : (some T : Option Nat) ≠ x2.ownBlock := fun e => by have := (A2.o2.lt _ e.symm).1; omega
      refine wp_region_G (S := SG (fun w' => Fr T W.heap.size W w') 3 (fun w' => ∀ j, w'.cell? ⟨wr.heap.size, j, none⟩ = (#[Value.int .i64 kp, .int .i64 kn, .string ks, .slice Cn np.length fn, .slice C pp.length f])[j]?) 5 (fun w' => w'.cell? ⟨T, 4, none⟩ = some x2)) (by kernel_rfl) ⟨A2.fr, fun _ => cx, fun _ => RT2.cell 4⟩ (fun hS => ?_)
      refine wpG_take0 (i := 0) (v := ?v5) rfl (by kernel_rfl) (by kernel_rfl) (by kernel_rfl) (by decide) (by decide) (fun _ _ _ h => h) hS (Or.inl ⟨by rfl, ?hy5⟩) ?rest5
      case hy5 => (intro w' hw; go_simp; try with_reducible rfl)
      replace hS := SG.set (i := 0) (by decide) (by decide) hS
      try simp only [Act.put, List.setIfInBounds_toArray, List.set_cons_zero, List.set_cons_succ]
      refine wpG_take2 (i := 1) (v := ?v6) rfl (by kernel_rfl) (by kernel_rfl) (by kernel_rfl) (by decide) (by decide) (by kernel_rfl) (by kernel_rfl) (fun _ _ _ h => h) hS (Or.inl ⟨by rfl, ?hy6⟩) ?rest6
      case hy6 => (intro w' hw; obtain ⟨_, u9⟩ := hw; go_simp; try with_reducible rfl)
      replace hS := SG.set (i := 1) (by decide) (by decide) hS
      try simp only [Act.put, List.setIfInBounds_toArray, List.set_cons_zero, List.set_cons_succ]
      refine wpG_take1 (i := 2) (v := ?v7) rfl (by kernel_rfl) (by kernel_rfl) (by kernel_rfl) (by decide) (by decide) (by kernel_rfl) (by kernel_rfl) (fun _ _ _ h => h) hS (Or.inl ⟨by rfl, ?hy7⟩) ?rest7
      case hy7 => (intro w' hw; obtain ⟨_, u9⟩ := hw; go_simp; try with_reducible rfl)
      replace hS := SG.set (i := 2) (by decide) (by decide) hS
      try simp only [Act.put, List.setIfInBounds_toArray, List.set_cons_zero, List.set_cons_succ]
      refine wpG_ready (rs := [3]) (by kernel_rfl) (by simp) ?_
      refine RG.cons rfl rfl (fun K hK => ?_) RG.nil
      go_simp
      refine C8.out.mono ?_
      rintro e w3 ⟨h3, An5, cn5, A5, c5, rfl, ht5⟩
      go_wp2_with fail
      have Q3 := A2.below h3
      have T3 := RT2.below h3 RT2.lt
      refine hK.out _ _ ⟨Q3.fr, fun h => absurd (h : true = false) (by decide), fun _ => T3.cell 4⟩ (fun hS => ?_)
      clear hK K
      try simp only [Act.put, List.setIfInBounds_toArray, List.set_cons_zero, List.set_cons_succ]
      have Q3a := Q3.below (bel1 w3 (.cells #[Value.int .i64 kp, .int .i64 kn, .string ks, .slice An5 np.length cn5, .slice A5 pp.length c5] 25))
      have hti := (A2.pend hQl hT (ht5.mono (Q := fun g => (P g ∧ g < w.heap.size) ∨ w2.drew.heap.size ≤ g) fun g hg => hg)).below (bel1 w3 (.cells #[Value.int .i64 kp, .int .i64 kn, .string ks, .slice An5 np.length cn5, .slice A5 pp.length c5] 25))
      have oc2 : ∀ u ∈ (#[Value.int .i64 kp, .int .i64 kn, .string ks, .slice An5 np.length cn5, .slice A5 pp.length c5] : Array Value).toList, u.oneCell' = true := by simp [Value.oneCell']
      have hsz3 : W.heap.size ≤ (w3.alloc (.cells #[Value.int .i64 kp, .int .i64 kn, .string ks, .slice An5 np.length cn5, .slice A5 pp.length c5] 25)).heap.size := Q3a.fr.size
      refine wpG_ready (rs := [4]) (by kernel_rfl) (by simp) ?_
      refine RG.cons rfl rfl (fun K hK => ?_) RG.nil
      go_simp
      refine hK.out _ _ ⟨Q3a.fr, fun h => absurd (h : true = false) (by decide), fun _ => (T3.alloc _).cell 4⟩ (fun hS => ?_)
      clear hK K
      try simp only [Act.put, List.setIfInBounds_toArray, List.set_cons_zero, List.set_cons_succ]
      refine wpG_ready (rs := [5]) (by kernel_rfl) (by simp) ?_
      refine RG.cons rfl rfl (fun K hK => ?_) RG.nil
      refine wp_append_lies (w3.alloc (.cells #[Value.int .i64 kp, .int .i64 kn, .string ks, .slice An5 np.length cn5, .slice A5 pp.length c5] 25)) (.tmp 23) (.tmp 26) 23 (by rfl) W.heap.size 25 iT _ 5 80 Tryd.underlying23 hiT hzT hsT hbT rfl (by omega) x2 tl.length cs (by rfl) Q3a.o2 ⟨w3.heap.size, 0, none⟩ 1 1 (#[Value.int .i64 kp, .int .i64 kn, .string ks, .slice An5 np.length cn5, .slice A5 pp.length c5] : Array Value).toList (by rfl) (by rfl) (World.news_of_block (RowB.new w3 25 #[Value.int .i64 kp, .int .i64 kn, .string ks, .slice An5 np.length cn5, .slice A5 pp.length c5])) oc2 (by omega) bb3 bb4 hsz3 _ rfl ?_
      intro gb capb w5 hown2 hgrow2 hat2 hlt2'
      have Q5 := Q3a.app hti hown2 hgrow2 rfl hat2
      have T5r := (T3.alloc (.cells #[Value.int .i64 kp, .int .i64 kn, .string ks, .slice An5 np.length cn5, .slice A5 pp.length c5] 25)).grown hgrow2 eT2
      clear hown2 hgrow2 hat2
      refine hK.out _ _ ⟨Q5.fr, fun h => absurd (h : true = false) (by decide), fun h => absurd (h : true = false) (by decide)⟩ (fun hS => ?_)
      clear hK K
      try simp only [Act.put, List.setIfInBounds_toArray, List.set_cons_zero, List.set_cons_succ]
      refine wpG_take0 (i := 6) (v := ?v8) rfl (by kernel_rfl) (by kernel_rfl) (by kernel_rfl) (by decide) (by decide) (fun _ _ _ h => h) hS (Or.inl ⟨by rfl, ?hy8⟩) ?rest8
      case hy8 => (intro w' hw; go_simp; try with_reducible rfl)
      replace hS := SG.set (i := 6) (by decide) (by decide) hS
      try simp only [Act.put, List.setIfInBounds_toArray, List.set_cons_zero, List.set_cons_succ]
      refine wpG_ready (rs := [7]) (by kernel_rfl) (by simp) ?_
      refine RG.cons rfl rfl (fun K hK => ?_) RG.nil
      have zt1 := T5r.cell
      have zt1t := T5r.thaw
      go_simp
      clear zt1 zt1t
      refine hK.out _ _ ⟨(Q5.put hT 4 _).fr, fun h => absurd (h : true = false) (by decide), fun h => absurd (h : true = false) (by decide)⟩ (fun hS => ?_)
      clear hK K
      try simp only [Act.put, List.setIfInBounds_toArray, List.set_cons_zero, List.set_cons_succ]
      refine wpG_done (by kernel_rfl) ?_ _
      have HFIN : Hid (∃ v2 cs, GV 25 W (w5.setCell ⟨T, 4, none⟩ (.slice (some ⟨gb, 0, none⟩) (tl.length + 1) capb)) T (fun g => P g ∧ g < w.heap.size) v2 (ps.take j) cs ∧ RowB (w5.setCell ⟨T, 4, none⟩ (.slice (some ⟨gb, 0, none⟩) (tl.length + 1) capb)) T 25 #[.int .i64 h.kind, .int .i64 h.n, .string h.s, .slice An m cn, v2]) := by
        unfold Hid
        have hf := Q5.put hT 4 (.slice (some ⟨gb, 0, none⟩) (tl.length + 1) capb)
        rw [HTK.out]
        exact ⟨_, _, hf, T5r.put 4 _⟩
      clear A2 RT2 Q3 T3 Q3a hti Q5 T5r hS h3 ht5 D2 bb3 bb4 eT2 oc2 hsz3 C8 HQ2 HT2 cx RXd
      go_wp2_with fail
      go_roundg (n - j)
      case measure => omega
      case rel => exact ⟨j, by rw [hj]; go_num, by omega, by omega, HFIN.out⟩
    · have hil : ¬ (i : Int) < (n : Int) := by omega
      obtain rfl : n = i := by omega
      rw [List.take_of_length_le (by rw [← HN.out]; exact Nat.le_refl _)] at hgv
      obtain ⟨A', c', e2, hvv⟩ := hgv.out hT
      rw [← HN.out] at e2
      have Z2 := Lib.hid (hgv.fr.row R2W.out (by have := HS3.out; omega) (by have := HTe.out; omega))
      have HBF : Hid (Below w.heap.size w wr) := HB.out.trans (hgv.fr.below (by have := HS3.out; omega) (by have := HTe.out; omega))
      have HNF : Hid (NV wr (fun g => P g ∧ g < w.heap.size) ns An cn) := HNW.out.keep hgv.fr.size fun g hg _ => ⟨hgv.fr.block g (hQl g hg).1 (hQl g hg).2, hg⟩
      have HVF := Lib.hid hvv
      have z2 := Z2.out.cell
      have z2t := Z2.out.thaw
      have zT := hrow.cell
      have hltT : T < wr.heap.size := hrow.lt
      subst e2
      clear hvv hgv hrow hi
      go_wp2_with fail
      refine bodyPost_ret (v := .agg #[.int .i64 h.kind, .int .i64 h.n, .string h.s, .slice An m cn, .slice A' n c']) ?_ rfl ⟨below_put5 HBF.out (by omega) _ _ _ _ _, An, cn, A', c', by rw [HM.out, HN.out]; rfl, ?_⟩
      · simp [results, Tryd.results22, go_sem, z2]
        try first | rfl | exact ⟨rfl, rfl⟩
      · refine VI.put5 (Q := fun g => ((P g ∧ g < w.heap.size) ∨ W.heap.size ≤ g)) (VI_iff.2 ⟨HNF.out.mono fun g hg => .inl hg, HVF.out.mono fun g hg => hg.1⟩) (fun g hg => ?_) _ _ _ _ _
        rcases hg with h | h
        · exact ⟨.inl h.1, by have := h.2; omega⟩
        · exact ⟨.inr (by have := HS3.out; omega), by have := HS3.out; omega⟩
theorem from_any : ∀ v : Vl, v.cnt ≤ 1000001 → ∀ (w : World) (P : Nat → Prop) (An : Option Addr) (cn : Nat) (A : Option Addr) (c : Nat), VI w P v An cn A c → Calls Tryd.prog 22 #[vv v An cn A c] w (VMade (fun g => P g ∨ w.heap.size ≤ g) v w) := by
  refine Vl.ind fun h ns ps ih hc w P An cn A c hv => ?_
  rw [Vl.cnt] at hc
  have e1 := cntL_len ps
  have hk := VI_iff.1 hv
  exact from_step h ns ps (by omega) (fun p hp w P An cn A c h => ih p hp (by have := cnt_mem hp; omega) w P An cn A c h) w P An cn A c hk.1 hk.2

end Vm
end Go.Proofs.YtbjlhdjcdinmhaaDoor
