/- Contract: the document's value with another name for a name (f29). -/
import Derived.Test.YtbjlhdjcdinmhaaDoorRH
import Derived.Test.YtbjlhdjcdinmhaaDoorQO
namespace Go.Proofs.YtbjlhdjcdinmhaaDoor
open Go.RowKit Go.Op
namespace Vm
/-- Blocks that may be of parts that have been laid. -/
def mwp (W : World) (Q : Nat → Prop) (v1 v2 : Value) (g : Nat) : Prop := (Q g ∨ W.heap.size ≤ g) ∧ v1.ownBlock ≠ some g ∧ v2.ownBlock ≠ some g
/-- Names and parts as far as they have been laid, the parts new ones. -/
structure MW (W wa : World) (Q : Nat → Prop) (v1 v2 : Value) (nl : List ByteArray) (tl : List Vl) (cs : List Value) : Prop where
  o1 : wa.ownsRow W.heap.size 9 1 v1 nl.length (nl.map Value.string)
  o2 : wa.ownsRow W.heap.size 25 5 v2 tl.length cs
  tl : VL wa (mwp W Q v1 v2) tl cs
  fr : Below W.heap.size W wa
section
variable {W wa wb : World} {Q : Nat → Prop} {v1 v1' v2 v2' : Value} {nl : List ByteArray} {tl : List Vl} {cs : List Value} {t : Vl} {An : Option Addr} {cn : Nat} {A : Option Addr} {c : Nat}
theorem MW.start (W : World) (Q : Nat → Prop) : MW W W Q (.slice none 0 0) (.slice none 0 0) [] [] [] :=
  ⟨World.ownsRow_nil W _ 9 1, World.ownsRow_nil W _ 25 5, by rw [VL], Below.refl _ _⟩
theorem MW.below (h : MW W wa Q v1 v2 nl tl cs) (hb : Below wa.heap.size wa wb) : MW W wb Q v1 v2 nl tl cs :=
  ⟨own_bel2 h.o1 hb, own_bel2 h.o2 hb, h.tl.below hb, h.fr.trans (hb.mono h.fr.size)⟩
theorem MW.pend (h : MW W wa Q v1 v2 nl tl cs) (hQ : ∀ g, Q g → g < W.heap.size) (ht : VI wb (fun g => Q g ∨ wa.heap.size ≤ g) t An cn A c) : VI wb (mwp W Q v1 v2) t An cn A c :=
  ht.mono fun g hg => by
    have h1 := h.fr.size
    rcases hg with hg | hg
    · have := hQ g hg
      refine ⟨.inl hg, fun e => ?_, fun e => ?_⟩
      · have := (h.o1.lt g e).1; omega
      · have := (h.o2.lt g e).1; omega
    · refine ⟨.inr (by omega), fun e => ?_, fun e => ?_⟩
      · have := (h.o1.lt g e).2; omega
      · have := (h.o2.lt g e).2; omega
theorem MW.app1 (h : MW W wa Q v1 v2 nl tl cs) {s : ByteArray} {g1 : Nat} (hown : wb.ownsRow W.heap.size 9 1 v1' (nl.length + 1) (nl.map Value.string ++ [.string s])) (hg : wa.grownBy wb v1.ownBlock)
    (hv : v1'.ownBlock = some g1) (hat : v1.ownBlock = some g1 ∨ g1 = wa.heap.size) : MW W wb Q v1' v2 (nl ++ [s]) tl cs ∧ ∀ t An cn A c, VI wa (mwp W Q v1 v2) t An cn A c → VI wb (mwp W Q v1' v2) t An cn A c := by
  have key : ∀ g, mwp W Q v1 v2 g → g < wa.heap.size → wb.heap[g]? = wa.heap[g]? ∧ mwp W Q v1' v2 g := fun g hp hl => by
    refine ⟨hg.block g hl fun e => hp.2.1 e.symm, hp.1, fun e => ?_, hp.2.2⟩
    rw [hv] at e
    injection e with e
    subst e
    rcases hat with h | h
    · exact hp.2.1 h
    · omega
  exact ⟨⟨by simpa using hown, own_keep h.o2 hg (own_apart h.o2 h.o1 (by omega)), VL.keep hg.size key _ _ h.tl, h.fr.grown hg h.fr.size (fun k hk => (h.o1.lt k hk).1)⟩, fun t An cn A c ht => ht.keep hg.size key⟩
theorem MW.app2 (h : MW W wa Q v1 v2 nl tl cs) (ht : VI wa (mwp W Q v1 v2) t An cn A c) {g1 : Nat} (hown : wb.ownsRow W.heap.size 25 5 v2' (tl.length + 1) (cs ++ vcs t An cn A c)) (hg : wa.grownBy wb v2.ownBlock)
    (hv : v2'.ownBlock = some g1) (hat : v2.ownBlock = some g1 ∨ g1 = wa.heap.size) : MW W wb Q v1 v2' nl (tl ++ [t]) (cs ++ vcs t An cn A c) := by
  have key : ∀ g, mwp W Q v1 v2 g → g < wa.heap.size → wb.heap[g]? = wa.heap[g]? ∧ mwp W Q v1 v2' g := fun g hp hl => by
    refine ⟨hg.block g hl fun e => hp.2.2 e.symm, hp.1, hp.2.1, fun e => ?_⟩
    rw [hv] at e
    injection e with e
    subst e
    rcases hat with h | h
    · exact hp.2.2 h
    · omega
  exact ⟨own_keep h.o1 hg (own_apart h.o1 h.o2 (by omega)), by simpa using hown, VL.app _ _ (VL.keep hg.size key _ _ h.tl) (VL.one (ht.keep hg.size key)), h.fr.grown hg h.fr.size (fun k hk => (h.o2.lt k hk).1)⟩
theorem MW.out (h : MW W wa Q v1 v2 nl tl cs) (hz : ∀ s ∈ nl, s.size ≤ 140737488351232) : ∃ An cn A c, v1 = .slice An nl.length cn ∧ v2 = .slice A tl.length c ∧ NV wa (fun g => W.heap.size ≤ g) nl An cn ∧ VV wa (fun g => Q g ∨ W.heap.size ≤ g) tl A c := by
  obtain ⟨An, cn, e1, c1⟩ := own_shape h.o1
  obtain ⟨A, c, e2, c2⟩ := own_shape h.o2
  have o1 := h.o1
  have o2 := h.o2
  rw [e1] at o1
  rw [e2] at o2
  exact ⟨An, cn, A, c, e1, e2, NV.of_own o1 rfl hz (fun g hg _ => hg) c1, VV.of_own o2 rfl h.tl (fun g hg => hg.1) (fun g hg _ => .inr hg) c2⟩
end
set_option maxHeartbeats 8000000 in
set_option maxRecDepth 100000 in
theorem rnamed_leaf (f t : ByteArray) (k : VH) (hk : k.kind ≠ 3) (ns : List ByteArray) (ps : List Vl) (w : World) (P : Nat → Prop) (An : Option Addr) (cn : Nat) (A : Option Addr) (c : Nat) (h : VI w P (.mk k ns ps) An cn A c) :
    Calls Tryd.prog 29 #[.agg (varr k An ns.length cn A ps.length c), .string f, .string t] w (NmQ P ((Vl.mk k ns ps).named f t) w) := by
  rw [Vl.named, if_pos hk]
  have h := h.low
  have b1 := bel1 w (.cells (varr k An ns.length cn A ps.length c) 25)
  have b2 := b1.trans ((bel1 (w.alloc (.cells (varr k An ns.length cn A ps.length c) 25)) (.cells (varr k An ns.length cn A ps.length c) 25)).mono b1.size)
  have R1 := Lib.hid ((RowB.new w 25 (varr k An ns.length cn A ps.length c)).alloc (.cells zvc 25))
  have R2 := Lib.hid (RowB.new (w.alloc (.cells (varr k An ns.length cn A ps.length c) 25)) 25 (varr k An ns.length cn A ps.length c))
  have hs2 : (w.alloc (.cells (varr k An ns.length cn A ps.length c) 25)).heap.size = w.heap.size + 1 := by simp
  rw [hs2] at R2
  have HV : Hid (VI _ (fun g => P g ∧ g < w.heap.size) (.mk k ns ps) An cn A c) := h.below b2
  have HB := Lib.hid b2
  have r1 := R1.out.cell
  have r2 := R2.out.cell
  have e3 : (k.kind != 3) = true := by rw [bne_iff_ne]; exact hk
  clear b1 b2 hs2 h R1 R2 hk
  go_enter Tryd.func29, Tryd.ntmps29
  go_wp2_with fail
  refine bodyPost_ret (v := .tuple #[vv (.mk k ns ps) An cn A c, .bool true]) ?_ rfl ⟨HB.out, An, cn, A, c, rfl, HV.out.mono fun g hg => .inl hg.1⟩
  simp [results, Tryd.results29, go_sem, r2]
  try first | rfl | exact ⟨rfl, rfl⟩
set_option maxHeartbeats 8000000 in
set_option maxRecDepth 100000 in
theorem rnamed_step (f t : ByteArray) (ht : t.size ≤ 140737488351232) (k : VH) (hk : k.kind = 3) (ns : List ByteArray) (ps : List Vl) (hlen : ns.length = ps.length) (hnl : ns.length ≤ 1000000)
    (IH : ∀ p ∈ ps, ∀ (w : World) (P : Nat → Prop) (An : Option Addr) (cn : Nat) (A : Option Addr) (c : Nat), VI w P p An cn A c → Calls Tryd.prog 29 #[vv p An cn A c, .string f, .string t] w (NmQ P (p.named f t) w))
    (w : World) (P : Nat → Prop) (An : Option Addr) (cn : Nat) (A : Option Addr) (c : Nat) (hN : NV w P ns An cn) (hT : VV w P ps A c) :
    Calls Tryd.prog 29 #[.agg (varr k An ns.length cn A ps.length c), .string f, .string t] w (NmQ P ((Vl.mk k ns ps).named f t) w) := by
  replace hN := hN.low
  replace hT := hT.low
  obtain ⟨i9, hi9, hz9, hs9, hb9⟩ := info_parts info9
  obtain ⟨iT, hiT, hzT, hsT, hbT⟩ := info_parts info25
  obtain ⟨n, hn⟩ : ∃ n, n = ns.length := ⟨_, rfl⟩
  have hm : n = ps.length := hn.trans hlen
  have HN := Lib.hid hn
  have HM := Lib.hid hm
  have hn1 : n ≤ 1000000 := by omega
  rw [← hn, ← hm]
  obtain ⟨kd, kn, ks⟩ := k
  simp only at hk
  subst hk
  have b1 := bel1 w (.cells #[.int .i64 3, .int .i64 kn, .string ks, .slice An n cn, .slice A n c] 25)
  have b2 := b1.trans ((bel1 (w.alloc (.cells #[.int .i64 3, .int .i64 kn, .string ks, .slice An n cn, .slice A n c] 25)) (.cells zvc 25)).mono b1.size)
  have R1 := RowB.new w 25 #[.int .i64 3, .int .i64 kn, .string ks, .slice An n cn, .slice A n c]
  have R2 := RowB.new (w.alloc (.cells #[.int .i64 3, .int .i64 kn, .string ks, .slice An n cn, .slice A n c] 25)) 25 zvc
  have hs1 : (w.alloc (.cells #[.int .i64 3, .int .i64 kn, .string ks, .slice An n cn, .slice A n c] 25)).heap.size = w.heap.size + 1 := by simp
  rw [hs1] at R2
  have r1 := (R1.alloc (.cells zvc 25)).cell
  obtain ⟨W, hW⟩ : ∃ W, W = (w.alloc (.cells #[.int .i64 3, .int .i64 kn, .string ks, .slice An n cn, .slice A n c] 25)).alloc (.cells zvc 25) := ⟨_, rfl⟩
  have HWS : Hid (W.heap.size = w.heap.size + 2) := by unfold Hid; rw [hW]; simp
  have RT : Hid (RowB W w.heap.size 25 #[.int .i64 3, .int .i64 kn, .string ks, .slice An n cn, .slice A n c]) := by rw [hW]; exact R1.alloc _
  have RR : Hid (RowB W (w.heap.size + 1) 25 zvc) := by rw [hW]; exact R2
  have HB : Hid (Below w.heap.size w W) := by rw [hW]; exact b2
  have HNV := Lib.hid hN
  have HVV := Lib.hid hT
  have HI := Lib.hid IH
  have HHT := Lib.hid ht
  have HNM1 : Hid (∀ qs, namedL f t ps = some qs → (Vl.mk ⟨3, kn, ks⟩ ns ps).named f t = recO (ns.map (ren f t)) qs) := fun qs h => by rw [Vl.named, if_neg (by simp), h]
  have HNM0 : Hid (namedL f t ps = none → (Vl.mk ⟨3, kn, ks⟩ ns ps).named f t = none) := fun h => by rw [Vl.named, if_neg (by simp), h]
  obtain ⟨o, ho⟩ : ∃ o, o = (Vl.mk ⟨3, kn, ks⟩ ns ps).named f t := ⟨_, rfl⟩
  rw [← ho] at HNM1 HNM0 ⊢
  have e2 := hW
  clear hN hT b1 b2 R1 R2 IH hm hn hnl hlen ho ht hW hs1
  go_enter Tryd.func29, Tryd.ntmps29
  go_wp2_with fail
  rw [← e2]
  clear e2 r1
  go_loopg [8, 9, 10] (n + 1) (fun kx s8 s9 s10 wr => ∃ (i : Nat) (x8 x9 : Value), x8 = s8 ∧ x9 = s9 ∧ s10 = .int .i64 i ∧ n - i ≤ kx ∧ i ≤ n ∧ Hid (RowB wr w.heap.size 25 #[.int .i64 3, .int .i64 kn, .string ks, .slice An n cn, .slice A n c]) ∧ Hid (RowB wr (w.heap.size + 1) 25 zvc) ∧ Hid (∃ qs cs, namedL f t (ps.take i) = some qs ∧ MW W wr (fun g => P g ∧ g < w.heap.size) x8 x9 ((ns.take i).map (ren f t)) qs cs))
  case atStart => exact ⟨0, _, _, rfl, rfl, rfl, by omega, by omega, RT.out, RR.out, [], [], by simp [namedL], by simpa using MW.start W _⟩
  case round =>
    obtain ⟨i, x8, x9, rfl, rfl, rfl, hkx, hin, HRT, HRR, HNr⟩ := hrel
    obtain ⟨qs, cs, hqs, hmw⟩ := HNr.out
    have HQS := Lib.hid hqs
    have HMW := Lib.hid hmw
    have HBr : Hid (Below w.heap.size w wr) := HB.out.trans (hmw.fr.mono HB.out.size)
    have HWR : Hid (W.heap.size ≤ wr.heap.size) := hmw.fr.size
    have rT := HRT.out.cell
    by_cases hi : i < n
    · have hil : (i : Int) < (n : Int) := by omega
      obtain ⟨p, ep⟩ := get_lt (l := ps) (i := i) (by rw [← HM.out]; exact hi)
      obtain ⟨s, es⟩ := get_lt (l := ns) (i := i) (by rw [← HN.out]; exact hi)
      have HQL : Hid (qs.length = i) := by have := namedL_len hqs; rw [List.length_take] at this; have h2 := HM.out; unfold Hid; omega
      obtain ⟨g0, o0, hA0, hP0, hg0, y, hsx⟩ := (HNV.out.below HBr.out).nth es
      obtain ⟨g, oo, An2, cn2, A2, c2, hA, hP, hg, hti, z0, z1, z2, z3, z4⟩ := (HVV.out.below HBr.out).nth ep
      have C1 := Lib.hid (HI.out p (List.mem_of_getElem? ep) wr _ An2 cn2 A2 c2 hti)
      have HNO : Hid (p.named f t = none → o = none) := fun h => HNM0.out (namedL_none (List.mem_of_getElem? ep) h)
      have HNS : Hid (∀ q, p.named f t = some q → namedL f t (ps.take (i + 1)) = some (qs ++ [q])) := fun q h => namedL_snoc hqs ep h
      have HTK : Hid ((ns.take (i + 1)).map (ren f t) = (ns.take i).map (ren f t) ++ [ren f t s]) := take_next (ren f t) es
      obtain ⟨po, hpo⟩ : ∃ po, po = p.named f t := ⟨_, rfl⟩
      rw [← hpo] at C1 HNO HNS
      obtain ⟨j, hj⟩ : ∃ j, j = i + 1 := ⟨_, rfl⟩
      rw [← hj] at HNS HTK
      obtain ⟨bb, hbb⟩ : ∃ bb, bb = decide (s = f) := ⟨_, rfl⟩
      have hxe : (s.toList == f.toList) = bb := by rw [beq_ba, hbb]
      have HBB := Lib.hid hbb
      subst hA hA0
      obtain ⟨ph, pn, pp⟩ := p
      simp only [vv, hd_mk, names_mk, parts_mk] at z0 z1 z2 z3 z4 C1
      clear ep es hqs hmw hti hP hP0 hpo HNr hsx hbb
      cases bb with
      | true =>
        have HREN : Hid (ren f t s = t) := by unfold Hid; rw [ren, if_pos (of_decide_eq_true HBB.out.symm)]
        clear HBB
        go_wp2_with fail
        refine C1.out.mono ?_
        rintro e w3 hq
        clear C1 z0 z1 z2 z3 z4 y
        cases po with
        | none =>
          obtain ⟨h3, Zn, zn, ZA, za, he, _⟩ := hq
          change e = .returned (.tuple #[.agg #[.int .i64 0, .int .i64 0, .string ⟨#[]⟩, .slice Zn 0 zn, .slice ZA 0 za], .bool false]) at he
          subst he
          have b4 := h3.trans ((bel1 w3 (.cells #[.int .i64 0, .int .i64 0, .string ⟨#[]⟩, .slice Zn 0 zn, .slice ZA 0 za] 25)).mono h3.size)
          have HR4 := Lib.hid (HRR.out.below b4 HRR.out.lt)
          have HB4 := Lib.hid (HBr.out.trans (b4.mono HBr.out.size))
          have HOO := Lib.hid (HNO.out (by first | rfl | trivial))
          obtain ⟨w4, hw4⟩ : ∃ w4, w4 = w3.alloc (.cells #[.int .i64 0, .int .i64 0, .string ⟨#[]⟩, .slice Zn 0 zn, .slice ZA 0 za] 25) := ⟨_, rfl⟩
          rw [← hw4] at HR4 HB4
          have hw4' := hw4
          clear h3 b4 HNO HNS hw4
          go_upto_region 13 with fail
          rw [← hw4']
          clear hw4'
          have r4 := HR4.out.cell
          have r4t := HR4.out.thaw
          go_wp2_with fail
          refine bodyPost_ret (v := .tuple #[zv, .bool false]) ?_ rfl ⟨below_put5 HB4.out (Nat.le_succ _) _ _ _ _ _, none, 0, none, 0, by rw [HOO.out]; rfl, by rw [HOO.out]; exact VI_iff.2 ⟨NV.nil _ _ _ _, VV.nil _ _ _ _⟩⟩
          simp [results, Tryd.results29, go_sem, r4]
          try first | rfl | exact ⟨rfl, rfl⟩
        | some q =>
          obtain ⟨h3, qN, qn, qV, qv, he, hq3⟩ := hq
          change e = .returned (.tuple #[vv q qN qn qV qv, .bool true]) at he
          change VI w3 _ q qN qn qV qv at hq3
          subst he
          have HNQ := Lib.hid (HNS.out q (by first | rfl | trivial))
          obtain ⟨qh, qns, qps⟩ := q
          have b3 := bel1 w3 (.cells #[.int .i64 qh.kind, .int .i64 qh.n, .string qh.s, .slice qN qns.length qn, .slice qV qps.length qv] 25)
          have b4 := h3.trans (b3.mono h3.size)
          obtain ⟨w4, hw4⟩ : ∃ w4, w4 = w3.alloc (.cells #[.int .i64 qh.kind, .int .i64 qh.n, .string qh.s, .slice qN qns.length qn, .slice qV qps.length qv] 25) := ⟨_, rfl⟩
          have RQ : Hid (RowB w4 w3.heap.size 25 #[.int .i64 qh.kind, .int .i64 qh.n, .string qh.s, .slice qN qns.length qn, .slice qV qps.length qv]) := by rw [hw4]; exact RowB.new w3 25 _
          rw [← hw4] at b3 b4
          have HRT4 := Lib.hid (HRT.out.below b4 HRT.out.lt)
          have HRR4 := Lib.hid (HRR.out.below b4 HRR.out.lt)
          have hq4 := HMW.out.pend (wb := w4) (t := .mk qh qns qps) (An := qN) (cn := qn) (A := qV) (c := qv) (fun g hg => by have := HWS.out; omega) (hq3.below b3)
          have bx := bel1 w4 (.cells #[.string t] 9)
          have HM5 := Lib.hid ((HMW.out.below b4).below bx)
          have HQ5 := Lib.hid (hq4.below bx)
          have RX := Lib.hid (RowB.new w4 9 #[.string t])
          have hln : ((ns.take i).map (ren f t)).length = i := by rw [List.length_map, List.length_take]; have := HN.out; omega
          obtain ⟨nl, hnl⟩ : ∃ nl, nl = (ns.take i).map (ren f t) := ⟨_, rfl⟩
          rw [← hnl] at HM5 hln
          have HNLE := Lib.hid hnl
          have HLN := Lib.hid hln
          have oc9 : ∀ u ∈ ([.string t] : List Value), u.oneCell' = true := by simp [Value.oneCell']
          have bb1 : nl.length + 1 ≤ maxLen := by unfold maxLen; omega
          have bb2 : (nl.length + 1) * 16 ≤ 140737488355328 := by omega
          have hsz5 : W.heap.size ≤ (w4.alloc (.cells #[.string t] 9)).heap.size := HM5.out.fr.size
          have HS34 : Hid (w3.heap.size < w4.heap.size ∧ wr.heap.size ≤ w3.heap.size) := ⟨RQ.out.lt, h3.size⟩
          have hw4' := hw4
          clear h3 b3 b4 hw4 hq3 hq4 bx HNO HNS hnl hln
          go_upto_region 14 with fail
          rw [← hw4']
          clear hw4'
          go_wp2_with ((at_builtin; refine wpList_append_lies _ rfl (.tmp 50) (.tmp 52) 22 rfl W.heap.size 9 i9 _ 1 16 Tryd.underlying22 hi9 hz9 hs9 hb9 rfl (by omega) x8 nl.length (nl.map Value.string) rfl HM5.out.o1 ⟨w4.heap.size, 0, none⟩ 1 1 [.string t] rfl rfl (World.news_of_block RX.out) oc9 (by omega) bb1 bb2 hsz5 _ rfl ?_))
          intro gb capb w6 hown hgrow hat hlt
          obtain ⟨hM6, hT6⟩ := HM5.out.app1 (v1' := .slice (some ⟨gb, 0, none⟩) (nl.length + 1) capb) (s := t) hown hgrow rfl (by have h := hat; simpa using h)
          have HQ6 := Lib.hid (hT6 _ _ _ _ _ HQ5.out)
          have RQ6 := Lib.hid ((RQ.out.alloc (.cells #[.string t] 9)).grown hgrow (fun e => by
            have h1 := (HM5.out.o1.lt _ e.symm)
            have h2 := HMW.out.o1.lt _ e.symm
            have h3 := HS34.out
            have h4 := HWR.out
            omega))
          have HRT6 := Lib.hid ((HRT4.out.alloc (.cells #[.string t] 9)).grown hgrow (fun e => by have h1 := (HM5.out.o1.lt _ e.symm).1; have := HWS.out; omega))
          have HRR6 := Lib.hid ((HRR4.out.alloc (.cells #[.string t] 9)).grown hgrow (fun e => by have h1 := (HM5.out.o1.lt _ e.symm).1; have := HWS.out; omega))
          have HM6 := Lib.hid hM6
          have rq := RQ6.out.cell
          have by7 := bel1 w6 (.cells #[.int .i64 qh.kind, .int .i64 qh.n, .string qh.s, .slice qN qns.length qn, .slice qV qps.length qv] 25)
          have HM7 := Lib.hid (HM6.out.below by7)
          have HQ7 := Lib.hid (HQ6.out.below by7)
          have RY := Lib.hid (RowB.new w6 25 #[.int .i64 qh.kind, .int .i64 qh.n, .string qh.s, .slice qN qns.length qn, .slice qV qps.length qv])
          have oc5 : ∀ u ∈ (#[.int .i64 qh.kind, .int .i64 qh.n, .string qh.s, .slice qN qns.length qn, .slice qV qps.length qv] : Array Value).toList, u.oneCell' = true := by simp [Value.oneCell']
          have bb3 : qs.length + 1 ≤ maxLen := by have := HQL.out; unfold maxLen; omega
          have bb4 : (qs.length + 1) * 80 ≤ 140737488355328 := by have := HQL.out; omega
          have hsz7 : W.heap.size ≤ (w6.alloc (.cells #[.int .i64 qh.kind, .int .i64 qh.n, .string qh.s, .slice qN qns.length qn, .slice qV qps.length qv] 25)).heap.size := HM7.out.fr.size
          clear hown hgrow hat hlt hM6 hT6 by7 bb1 bb2 hsz5 oc9 HM5 HQ5 RX
          go_wp2_with ((at_builtin; refine wpList_append_lies _ rfl (.tmp 54) (.tmp 56) 23 rfl W.heap.size 25 iT _ 5 80 Tryd.underlying23 hiT hzT hsT hbT rfl (by omega) x9 qs.length cs rfl HM7.out.o2 ⟨w6.heap.size, 0, none⟩ 1 1 (#[.int .i64 qh.kind, .int .i64 qh.n, .string qh.s, .slice qN qns.length qn, .slice qV qps.length qv] : Array Value).toList rfl rfl (World.news_of_block RY.out) oc5 (by omega) bb3 bb4 hsz7 _ rfl ?_))
          intro gc capc w8 hown hgrow hat hlt
          have HM8 := Lib.hid (HM7.out.app2 (v2' := .slice (some ⟨gc, 0, none⟩) (qs.length + 1) capc) HQ7.out hown hgrow rfl (by have h := hat; simpa using h))
          have HRT8 := Lib.hid ((HRT6.out.alloc (.cells #[.int .i64 qh.kind, .int .i64 qh.n, .string qh.s, .slice qN qns.length qn, .slice qV qps.length qv] 25)).grown hgrow (fun e => by have h1 := (HM7.out.o2.lt _ e.symm).1; have := HWS.out; omega))
          have HRR8 := Lib.hid ((HRR6.out.alloc (.cells #[.int .i64 qh.kind, .int .i64 qh.n, .string qh.s, .slice qN qns.length qn, .slice qV qps.length qv] 25)).grown hgrow (fun e => by have h1 := (HM7.out.o2.lt _ e.symm).1; have := HWS.out; omega))
          have HF8 : Hid (∃ rs, namedL f t (ps.take j) = some rs ∧ ∃ cs, MW W w8 (fun g => P g ∧ g < w.heap.size) (.slice (some ⟨gb, 0, none⟩) (nl.length + 1) capb) (.slice (some ⟨gc, 0, none⟩) (qs.length + 1) capc) ((ns.take j).map (ren f t)) rs cs) := by
            unfold Hid
            refine ⟨_, HNQ.out, ?_⟩
            rw [HTK.out, ← HNLE.out, HREN.out]
            exact ⟨_, HM8.out⟩
          clear hown hgrow hat hlt rq RY oc5 bb3 bb4 hsz7 HM7 HQ7 HQ6 RQ6 HM6
          go_wp2_with fail
          go_roundg (n - j)
          case measure => omega
          case rel => exact ⟨j, _, _, rfl, rfl, by rw [hj]; go_num, by omega, by omega, HRT8.out, HRR8.out, by obtain ⟨rs, h1, cs, h2⟩ := HF8.out; exact ⟨rs, cs, h1, h2⟩⟩

      | false =>
        have HREN : Hid (ren f t s = s) := by unfold Hid; rw [ren, if_neg (of_decide_eq_false HBB.out.symm)]
        clear HBB
        go_wp2_with fail
        refine C1.out.mono ?_
        rintro e w3 hq
        clear C1 z0 z1 z2 z3 z4 y
        cases po with
        | none =>
          obtain ⟨h3, Zn, zn, ZA, za, he, _⟩ := hq
          change e = .returned (.tuple #[.agg #[.int .i64 0, .int .i64 0, .string ⟨#[]⟩, .slice Zn 0 zn, .slice ZA 0 za], .bool false]) at he
          subst he
          have b4 := h3.trans ((bel1 w3 (.cells #[.int .i64 0, .int .i64 0, .string ⟨#[]⟩, .slice Zn 0 zn, .slice ZA 0 za] 25)).mono h3.size)
          have HR4 := Lib.hid (HRR.out.below b4 HRR.out.lt)
          have HB4 := Lib.hid (HBr.out.trans (b4.mono HBr.out.size))
          have HOO := Lib.hid (HNO.out (by first | rfl | trivial))
          obtain ⟨w4, hw4⟩ : ∃ w4, w4 = w3.alloc (.cells #[.int .i64 0, .int .i64 0, .string ⟨#[]⟩, .slice Zn 0 zn, .slice ZA 0 za] 25) := ⟨_, rfl⟩
          rw [← hw4] at HR4 HB4
          have hw4' := hw4
          clear h3 b4 HNO HNS hw4
          go_upto_region 13 with fail
          rw [← hw4']
          clear hw4'
          have r4 := HR4.out.cell
          have r4t := HR4.out.thaw
          go_wp2_with fail
          refine bodyPost_ret (v := .tuple #[zv, .bool false]) ?_ rfl ⟨below_put5 HB4.out (Nat.le_succ _) _ _ _ _ _, none, 0, none, 0, by rw [HOO.out]; rfl, by rw [HOO.out]; exact VI_iff.2 ⟨NV.nil _ _ _ _, VV.nil _ _ _ _⟩⟩
          simp [results, Tryd.results29, go_sem, r4]
          try first | rfl | exact ⟨rfl, rfl⟩
        | some q =>
          obtain ⟨h3, qN, qn, qV, qv, he, hq3⟩ := hq
          change e = .returned (.tuple #[vv q qN qn qV qv, .bool true]) at he
          change VI w3 _ q qN qn qV qv at hq3
          subst he
          have HNQ := Lib.hid (HNS.out q (by first | rfl | trivial))
          obtain ⟨qh, qns, qps⟩ := q
          have b3 := bel1 w3 (.cells #[.int .i64 qh.kind, .int .i64 qh.n, .string qh.s, .slice qN qns.length qn, .slice qV qps.length qv] 25)
          have b4 := h3.trans (b3.mono h3.size)
          obtain ⟨w4, hw4⟩ : ∃ w4, w4 = w3.alloc (.cells #[.int .i64 qh.kind, .int .i64 qh.n, .string qh.s, .slice qN qns.length qn, .slice qV qps.length qv] 25) := ⟨_, rfl⟩
          have RQ : Hid (RowB w4 w3.heap.size 25 #[.int .i64 qh.kind, .int .i64 qh.n, .string qh.s, .slice qN qns.length qn, .slice qV qps.length qv]) := by rw [hw4]; exact RowB.new w3 25 _
          rw [← hw4] at b3 b4
          have HRT4 := Lib.hid (HRT.out.below b4 HRT.out.lt)
          have HRR4 := Lib.hid (HRR.out.below b4 HRR.out.lt)
          have hq4 := HMW.out.pend (wb := w4) (t := .mk qh qns qps) (An := qN) (cn := qn) (A := qV) (c := qv) (fun g hg => by have := HWS.out; omega) (hq3.below b3)
          have bx := bel1 w4 (.cells #[.string s] 9)
          have HM5 := Lib.hid ((HMW.out.below b4).below bx)
          have HQ5 := Lib.hid (hq4.below bx)
          have RX := Lib.hid (RowB.new w4 9 #[.string s])
          have hln : ((ns.take i).map (ren f t)).length = i := by rw [List.length_map, List.length_take]; have := HN.out; omega
          obtain ⟨nl, hnl⟩ : ∃ nl, nl = (ns.take i).map (ren f t) := ⟨_, rfl⟩
          rw [← hnl] at HM5 hln
          have HNLE := Lib.hid hnl
          have HLN := Lib.hid hln
          have oc9 : ∀ u ∈ ([.string s] : List Value), u.oneCell' = true := by simp [Value.oneCell']
          have bb1 : nl.length + 1 ≤ maxLen := by unfold maxLen; omega
          have bb2 : (nl.length + 1) * 16 ≤ 140737488355328 := by omega
          have hsz5 : W.heap.size ≤ (w4.alloc (.cells #[.string s] 9)).heap.size := HM5.out.fr.size
          have HS34 : Hid (w3.heap.size < w4.heap.size ∧ wr.heap.size ≤ w3.heap.size) := ⟨RQ.out.lt, h3.size⟩
          have hw4' := hw4
          clear h3 b3 b4 hw4 hq3 hq4 bx HNO HNS hnl hln
          go_upto_region 14 with fail
          rw [← hw4']
          clear hw4'
          go_wp2_with ((at_builtin; refine wpList_append_lies _ rfl (.tmp 50) (.tmp 52) 22 rfl W.heap.size 9 i9 _ 1 16 Tryd.underlying22 hi9 hz9 hs9 hb9 rfl (by omega) x8 nl.length (nl.map Value.string) rfl HM5.out.o1 ⟨w4.heap.size, 0, none⟩ 1 1 [.string s] rfl rfl (World.news_of_block RX.out) oc9 (by omega) bb1 bb2 hsz5 _ rfl ?_))
          intro gb capb w6 hown hgrow hat hlt
          obtain ⟨hM6, hT6⟩ := HM5.out.app1 (v1' := .slice (some ⟨gb, 0, none⟩) (nl.length + 1) capb) (s := s) hown hgrow rfl (by have h := hat; simpa using h)
          have HQ6 := Lib.hid (hT6 _ _ _ _ _ HQ5.out)
          have RQ6 := Lib.hid ((RQ.out.alloc (.cells #[.string s] 9)).grown hgrow (fun e => by
            have h1 := (HM5.out.o1.lt _ e.symm)
            have h2 := HMW.out.o1.lt _ e.symm
            have h3 := HS34.out
            have h4 := HWR.out
            omega))
          have HRT6 := Lib.hid ((HRT4.out.alloc (.cells #[.string s] 9)).grown hgrow (fun e => by have h1 := (HM5.out.o1.lt _ e.symm).1; have := HWS.out; omega))
          have HRR6 := Lib.hid ((HRR4.out.alloc (.cells #[.string s] 9)).grown hgrow (fun e => by have h1 := (HM5.out.o1.lt _ e.symm).1; have := HWS.out; omega))
          have HM6 := Lib.hid hM6
          have rq := RQ6.out.cell
          have by7 := bel1 w6 (.cells #[.int .i64 qh.kind, .int .i64 qh.n, .string qh.s, .slice qN qns.length qn, .slice qV qps.length qv] 25)
          have HM7 := Lib.hid (HM6.out.below by7)
          have HQ7 := Lib.hid (HQ6.out.below by7)
          have RY := Lib.hid (RowB.new w6 25 #[.int .i64 qh.kind, .int .i64 qh.n, .string qh.s, .slice qN qns.length qn, .slice qV qps.length qv])
          have oc5 : ∀ u ∈ (#[.int .i64 qh.kind, .int .i64 qh.n, .string qh.s, .slice qN qns.length qn, .slice qV qps.length qv] : Array Value).toList, u.oneCell' = true := by simp [Value.oneCell']
          have bb3 : qs.length + 1 ≤ maxLen := by have := HQL.out; unfold maxLen; omega
          have bb4 : (qs.length + 1) * 80 ≤ 140737488355328 := by have := HQL.out; omega
          have hsz7 : W.heap.size ≤ (w6.alloc (.cells #[.int .i64 qh.kind, .int .i64 qh.n, .string qh.s, .slice qN qns.length qn, .slice qV qps.length qv] 25)).heap.size := HM7.out.fr.size
          clear hown hgrow hat hlt hM6 hT6 by7 bb1 bb2 hsz5 oc9 HM5 HQ5 RX
          go_wp2_with ((at_builtin; refine wpList_append_lies _ rfl (.tmp 54) (.tmp 56) 23 rfl W.heap.size 25 iT _ 5 80 Tryd.underlying23 hiT hzT hsT hbT rfl (by omega) x9 qs.length cs rfl HM7.out.o2 ⟨w6.heap.size, 0, none⟩ 1 1 (#[.int .i64 qh.kind, .int .i64 qh.n, .string qh.s, .slice qN qns.length qn, .slice qV qps.length qv] : Array Value).toList rfl rfl (World.news_of_block RY.out) oc5 (by omega) bb3 bb4 hsz7 _ rfl ?_))
          intro gc capc w8 hown hgrow hat hlt
          have HM8 := Lib.hid (HM7.out.app2 (v2' := .slice (some ⟨gc, 0, none⟩) (qs.length + 1) capc) HQ7.out hown hgrow rfl (by have h := hat; simpa using h))
          have HRT8 := Lib.hid ((HRT6.out.alloc (.cells #[.int .i64 qh.kind, .int .i64 qh.n, .string qh.s, .slice qN qns.length qn, .slice qV qps.length qv] 25)).grown hgrow (fun e => by have h1 := (HM7.out.o2.lt _ e.symm).1; have := HWS.out; omega))
          have HRR8 := Lib.hid ((HRR6.out.alloc (.cells #[.int .i64 qh.kind, .int .i64 qh.n, .string qh.s, .slice qN qns.length qn, .slice qV qps.length qv] 25)).grown hgrow (fun e => by have h1 := (HM7.out.o2.lt _ e.symm).1; have := HWS.out; omega))
          have HF8 : Hid (∃ rs, namedL f t (ps.take j) = some rs ∧ ∃ cs, MW W w8 (fun g => P g ∧ g < w.heap.size) (.slice (some ⟨gb, 0, none⟩) (nl.length + 1) capb) (.slice (some ⟨gc, 0, none⟩) (qs.length + 1) capc) ((ns.take j).map (ren f t)) rs cs) := by
            unfold Hid
            refine ⟨_, HNQ.out, ?_⟩
            rw [HTK.out, ← HNLE.out, HREN.out]
            exact ⟨_, HM8.out⟩
          clear hown hgrow hat hlt rq RY oc5 bb3 bb4 hsz7 HM7 HQ7 HQ6 RQ6 HM6
          go_wp2_with fail
          go_roundg (n - j)
          case measure => omega
          case rel => exact ⟨j, _, _, rfl, rfl, by rw [hj]; go_num, by omega, by omega, HRT8.out, HRR8.out, by obtain ⟨rs, h1, cs, h2⟩ := HF8.out; exact ⟨rs, cs, h1, h2⟩⟩
    · have hil : ¬ (i : Int) < (n : Int) := by omega
      obtain rfl : n = i := by omega
      have hql : qs.length = n := by have := namedL_len hqs; rw [List.length_take] at this; have h2 := HM.out; omega
      have htk : namedL f t ps = some qs := by rw [List.take_of_length_le (by rw [← HM.out]; exact Nat.le_refl _)] at hqs; exact hqs
      have HOO := Lib.hid (HNM1.out qs htk)
      rw [List.take_of_length_le (by rw [← HN.out]; exact Nat.le_refl _)] at hmw
      obtain ⟨A8, c8, A9, c9, e8, e9, hn8, hv9⟩ := hmw.out (fun x hx => by
        obtain ⟨y, hy, rfl⟩ := List.mem_map.1 hx
        unfold ren
        split
        · exact HHT.out
        · exact HNV.out.2.1 y hy)
      rw [List.length_map, ← HN.out] at e8
      rw [hql] at e9
      subst e8 e9
      have hws := HWS.out
      have C2 := rrec_any wr (ns.map (ren f t)) qs (fun g => (P g ∧ g < w.heap.size) ∨ w.heap.size + 2 ≤ g) A8 c8 A9 c9 (hn8.mono fun g hg => .inr (by omega)) (hv9.mono fun g hg => by rcases hg with h | h; exact .inl h; exact .inr (by omega)) (by rw [List.length_map, ← HN.out]; exact hn1)
      rw [List.length_map, ← HN.out, hql] at C2
      have CREC := Lib.hid C2
      clear hqs hmw hql htk C2 HNr HQS HNM1 HNM0 hi HI HMW hn8 hv9 hws
      go_wp2_with fail
      refine CREC.out.mono ?_
      rintro e w6 ⟨u, Bn, dn, B, d, z, rfl, hu, h6, hz⟩
      have hres : (z == 0) = o.isSome ∧ (∀ u', o = some u' → u' = u) ∧ (o = none → u = zero) := by
        rw [HOO.out]
        rcases hz with ⟨rfl, h1, rfl⟩ | ⟨rfl, h1, h2, rfl⟩ | ⟨rfl, h1, h2, hrec⟩
        · rw [recO_none (.inl h1)]
          exact ⟨rfl, fun _ h => (by cases h), fun _ => rfl⟩
        · rw [recO_none (.inr h2)]
          exact ⟨rfl, fun _ h => (by cases h), fun _ => rfl⟩
        · rw [recO_is.2 ⟨h1, h2, hrec⟩]
          exact ⟨rfl, fun _ h => (by injection h with h; exact h.symm), fun h => (by cases h)⟩
      obtain ⟨hz0, hsome, hnone⟩ := hres
      have HSO := Lib.hid hsome
      have HNN := Lib.hid hnone
      obtain ⟨uh, un, up⟩ := u
      obtain ⟨w7, hw7⟩ : ∃ w7, w7 = w6.alloc (.cells (varr uh Bn un.length dn B up.length d) 25) := ⟨_, rfl⟩
      have b7 : Below w6.heap.size w6 w7 := by rw [hw7]; exact bel1 w6 _
      have R7 : RowB w7 w6.heap.size 25 (varr uh Bn un.length dn B up.length d) := by rw [hw7]; exact RowB.new w6 25 _
      have h57 := h6.trans (b7.mono h6.size)
      have HB7 := Lib.hid (HBr.out.trans (h57.mono HBr.out.size))
      have HU7 : Hid (VI w7 (fun g => (P g ∧ g < w.heap.size) ∨ w.heap.size + 2 ≤ g) (.mk uh un up) Bn dn B d) := (hu.below b7).mono fun g hg => by
        rcases hg with h | h
        · exact h
        · have := HWS.out
          have := HWR.out
          exact .inr (by omega)
      have HRR7 := Lib.hid (HRR.out.below h57 HRR.out.lt)
      have hw7' := hw7
      simp only [varr] at hw7'
      have r7 := R7.cell
      clear hz hsome hnone hu h6 hw7 b7 R7 h57 CREC rT
      go_upto_region 17 with fail
      rw [← hw7']
      clear hw7'
      have rr := HRR7.out.cell
      have rrt := HRR7.out.thaw
      go_wp2_with fail
      refine bodyPost_ret (v := .tuple #[vv (.mk uh un up) Bn dn B d, .bool o.isSome]) ?_ rfl ⟨below_put5 HB7.out (Nat.le_succ _) _ _ _ _ _, ?_⟩
      · simp [results, Tryd.results29, go_sem, rr]
        try first | rfl | exact ⟨rfl, rfl⟩
      · have hu7 := HU7.out
        have hg : o.getD zero = .mk uh un up := by
          cases o with
          | none => exact (HNN.out rfl).symm
          | some u' => exact HSO.out u' rfl
        exact ⟨Bn, dn, B, d, by rw [hg], by rw [hg]; exact VI.put5 hu7 (fun g hg => ⟨by rcases hg with h | h; exact .inl h.1; exact .inr (by omega), by rcases hg with h | h <;> omega⟩) _ _ _ _ _⟩
theorem rnamed_any (f t : ByteArray) (ht : t.size ≤ 140737488351232) : ∀ v : Vl, v.right = true → v.cnt ≤ 1000001 → ∀ (w : World) (P : Nat → Prop) (An : Option Addr) (cn : Nat) (A : Option Addr) (c : Nat), VI w P v An cn A c → Calls Tryd.prog 29 #[vv v An cn A c, .string f, .string t] w (NmQ P (v.named f t) w) := by
  refine Vl.ind fun k ns ps ih hr hc w P An cn A c h => ?_
  rw [Vl.cnt] at hc
  have e1 := cntL_len ps
  by_cases hk : k.kind = 3
  · have hh := VI_iff.1 h
    have hlen : ns.length = ps.length := by
      rcases right_cases hr with ⟨h, _⟩ | ⟨h, _⟩ | ⟨h, _⟩ | ⟨_, _, _, h, _⟩ <;> omega
    exact rnamed_step f t ht k hk ns ps hlen (by omega) (fun p hp w P An cn A c h => ih p hp (right_part hr hp) (by have := cnt_mem hp; omega) w P An cn A c h) w P An cn A c hh.1 hh.2
  · exact rnamed_leaf f t k hk ns ps w P An cn A c h
end Vm
end Go.Proofs.YtbjlhdjcdinmhaaDoor
