/- The law ValueMakes, walked. -/
import Derived.Test.YtbjlhdjcdinmhaaDoorQW
import Derived.Test.YtbjlhdjcdinmhaaDoorQO
namespace Go.Proofs.YtbjlhdjcdinmhaaDoor
open Go.RowKit Go.Op
namespace Vm
/-- Values as far as they have been laid. -/
structure GW (e : Nat) (W wa : World) (Q : Nat → Prop) (v2 : Value) (tl : List Vl) (cs : List Value) : Prop where
  o2 : wa.ownsRow W.heap.size e 5 v2 tl.length cs
  tl : VL wa (fun g => (Q g ∨ W.heap.size ≤ g) ∧ v2.ownBlock ≠ some g) tl cs
  fr : Below W.heap.size W wa
section
variable {e : Nat} {W wa wb : World} {Q : Nat → Prop} {v2 v2' : Value} {tl : List Vl} {cs : List Value} {t : Vl} {An : Option Addr} {cn : Nat} {A : Option Addr} {c : Nat}
theorem GW.start (e : Nat) (W : World) (Q : Nat → Prop) : GW e W W Q (.slice none 0 0) [] [] :=
  ⟨World.ownsRow_nil W _ e 5, by rw [VL], Below.refl _ _⟩
theorem GW.below (h : GW e W wa Q v2 tl cs) (hb : Below wa.heap.size wa wb) : GW e W wb Q v2 tl cs :=
  ⟨own_bel2 h.o2 hb, h.tl.below hb, h.fr.trans (hb.mono h.fr.size)⟩
theorem GW.pend (h : GW e W wa Q v2 tl cs) (hQ : ∀ g, Q g → g < W.heap.size) (ht : VI wb (fun g => Q g ∨ wa.heap.size ≤ g) t An cn A c) : VI wb (fun g => (Q g ∨ W.heap.size ≤ g) ∧ v2.ownBlock ≠ some g) t An cn A c :=
  ht.mono fun g hg => by
    have h1 := h.fr.size
    rcases hg with hg | hg
    · have := hQ g hg
      refine ⟨.inl hg, fun e => ?_⟩
      have := (h.o2.lt g e).1; omega
    · refine ⟨.inr (by omega), fun e => ?_⟩
      have := (h.o2.lt g e).2; omega
theorem GW.app (h : GW e W wa Q v2 tl cs) (ht : VI wa (fun g => (Q g ∨ W.heap.size ≤ g) ∧ v2.ownBlock ≠ some g) t An cn A c) {g1 : Nat} (hown : wb.ownsRow W.heap.size e 5 v2' (tl.length + 1) (cs ++ vcs t An cn A c)) (hg : wa.grownBy wb v2.ownBlock)
    (hv : v2'.ownBlock = some g1) (hat : v2.ownBlock = some g1 ∨ g1 = wa.heap.size) : GW e W wb Q v2' (tl ++ [t]) (cs ++ vcs t An cn A c) := by
  have key : ∀ g, ((Q g ∨ W.heap.size ≤ g) ∧ v2.ownBlock ≠ some g) → g < wa.heap.size → wb.heap[g]? = wa.heap[g]? ∧ ((Q g ∨ W.heap.size ≤ g) ∧ v2'.ownBlock ≠ some g) := fun g hp hl => by
    refine ⟨hg.block g hl fun e => hp.2 e.symm, hp.1, fun e => ?_⟩
    rw [hv] at e
    injection e with e
    subst e
    rcases hat with h | h
    · exact hp.2 h
    · omega
  exact ⟨by simpa using hown, VL.app _ _ (VL.keep hg.size key _ _ h.tl) (VL.one (ht.keep hg.size key)), h.fr.grown hg h.fr.size (fun k hk => (h.o2.lt k hk).1)⟩
theorem GW.out (h : GW e W wa Q v2 tl cs) : ∃ A c, v2 = .slice A tl.length c ∧ VV wa (fun g => Q g ∨ W.heap.size ≤ g) tl A c := by
  obtain ⟨A, c, e2, c2⟩ := own_shape h.o2
  have o2 := h.o2
  rw [e2] at o2
  exact ⟨A, c, e2, VV.of_own o2 rfl h.tl (fun g hg => hg.1) (fun g hg _ => .inr hg) c2⟩
end
/-- Both records are one. -/
theorem recs_one {ns : List ByteArray} {ps : List Vl} {t u : Vl} {z y : Int}
    (h : (z = 1 ∧ ns.length ≠ ps.length ∧ t = zero) ∨ (z = 40 ∧ ns.length = ps.length ∧ ¬ ns.Nodup ∧ t = zero) ∨ (z = 0 ∧ ns.length = ps.length ∧ ns.Nodup ∧ IsRec ns ps t))
    (k : (y = 1 ∧ ns.length ≠ ps.length ∧ u = zero) ∨ (y = 40 ∧ ns.length = ps.length ∧ ¬ ns.Nodup ∧ u = zero) ∨ (y = 0 ∧ ns.length = ps.length ∧ ns.Nodup ∧ IsRec ns ps u)) :
    z = y ∧ t = u ∧ t.names.length ≤ ns.length ∧ t.parts.length ≤ ns.length ∧ ∀ p ∈ t.parts, p ∈ ps := by
  have key : ∀ t : Vl, t = zero → t.names.length ≤ ns.length ∧ t.parts.length ≤ ns.length ∧ ∀ p ∈ t.parts, p ∈ ps := by
    rintro t rfl
    exact ⟨Nat.zero_le _, Nat.zero_le _, fun p hp => by cases hp⟩
  rcases h with ⟨rfl, h1, h2⟩ | ⟨rfl, h1, h2, h3⟩ | ⟨rfl, h1, h2, h3⟩ <;> rcases k with ⟨rfl, k1, k2⟩ | ⟨rfl, k1, k2, k3⟩ | ⟨rfl, k1, k2, k3⟩
  · exact ⟨rfl, h2.trans k2.symm, key t h2⟩
  · exact absurd k1 h1
  · exact absurd k1 h1
  · exact absurd h1 k1
  · exact ⟨rfl, h3.trans k3.symm, key t h3⟩
  · exact absurd k2 h2
  · exact absurd h1 k1
  · exact absurd h2 k2
  · exact ⟨rfl, h3.uniq k3, h3.len_le, by rw [← h3.len]; exact h3.len_le, fun p hp => by
      rw [← zip_snd h3.len, List.mem_map] at hp
      obtain ⟨⟨y, q⟩, hm, rfl⟩ := hp
      exact (List.of_mem_zip ((h3.mem y q).1 hm)).2⟩
theorem sameL_refl (ps : List Vl) : sameL ps ps = true := (sameL_iff ps ps).2 rfl
/-- A value is itself, by the document; its parts aren't too great. -/
theorem rsame_self (t : Vl) (hn : t.names.length ≤ 1000001) (hp : t.parts.length ≤ 1000001) (hc : ∀ p ∈ t.parts, p.cnt ≤ 1000001) (w : World) (P P' : Nat → Prop) (An : Option Addr) (cn : Nat) (A : Option Addr) (c : Nat) (Bn : Option Addr) (dn : Nat) (B : Option Addr) (d : Nat) (h : VI w P t An cn A c) (h' : VI w P' t Bn dn B d) :
    Calls Tryd.prog 16 #[vv t An cn A c, vv t Bn dn B d] w fun e w' => e = .returned (.bool true) ∧ Below w.heap.size w w' := by
  obtain ⟨k, ns, ps⟩ := t
  have h1 := VI_iff.1 h
  have h2 := VI_iff.1 h'
  exact rsame_step ps ps hp hp (fun a ha b hb w P P' An cn A c Bn dn B d h h' => rsame_any a (hc a ha) b (hc b hb) w P P' An cn A c Bn dn B d h h') w P P' k k ns ns hn hn An cn A c Bn dn B d h1.1 h2.1 h1.2 h2.2 true (by rw [sameL_refl]; simp)
/-- From, of a value whose parts aren't too great. -/
theorem from_self (t : Vl) (hp : t.parts.length ≤ 1000001) (hc : ∀ p ∈ t.parts, p.cnt ≤ 1000001) (w : World) (P : Nat → Prop) (An : Option Addr) (cn : Nat) (A : Option Addr) (c : Nat) (h : VI w P t An cn A c) :
    Calls Tryd.prog 22 #[vv t An cn A c] w (VMade (fun g => P g ∨ w.heap.size ≤ g) t w) := by
  obtain ⟨k, ns, ps⟩ := t
  have h1 := VI_iff.1 h
  exact from_step k ns ps hp (fun p hp w P An cn A c h => from_any p (hc p hp) w P An cn A c h) w P An cn A c h1.1 h1.2
theorem leaf_vi (w : World) (h : VH) : VI w (fun _ => False) (.mk h [] []) none 0 none 0 := VI_iff.2 ⟨NV.nil _ _ _ _, VV.nil _ _ _ _⟩
set_option maxHeartbeats 16000000 in
set_option maxRecDepth 100000 in
theorem makes_walk (w : World) (ns : List ByteArray) (P0 : Nat → Prop) (A0 : Option Addr) (c0 : Nat) (h0 : NV w P0 ns A0 c0) (ps : List Vl) (P1 : Nat → Prop) (A1 : Option Addr) (c1 : Nat) (h1 : VV w P1 ps A1 c1)
    (nn : Int) (s : ByteArray) (kk : Int) (hT : Tb w) :
    Calls Tryd.prog 4 #[.slice A0 ns.length c0, .slice A1 ps.length c1, .int .i64 nn, .string s, .int .i64 kk] w fun e w' => e = .returned (.bool true) ∧ Below w.heap.size w w' := by
  obtain ⟨n, hn⟩ : ∃ n, n = ns.length := ⟨_, rfl⟩
  obtain ⟨m, hm⟩ : ∃ m, m = ps.length := ⟨_, rfl⟩
  obtain ⟨sz, hsz⟩ : ∃ z, z = s.size := ⟨_, rfl⟩
  rw [← hn, ← hm]
  have HN := Lib.hid hn
  have HM := Lib.hid hm
  have HNV : Hid (NV w (fun g => P0 g ∧ g < w.heap.size) ns A0 c0) := h0.low
  have HVV : Hid (VV w (fun g => P1 g ∧ g < w.heap.size) ps A1 c1) := h1.low
  have HT := Lib.hid hT
  have HB0 : Hid (Below w.heap.size w w) := Below.refl _ _
  have HSZ := Lib.hid hsz
  clear hn hm h0 h1 hT
  go_enter Tryd.func4, Tryd.ntmps4
  by_cases hn : n ≤ 30
  case neg =>
    have q1 : (n : Int) > 30 := by omega
    clear hn HNV HVV HN HM
    have CA := Lib.hid (awake_any _ (HT.out.step HB0.out))
    go_wp2_with fail
    refine CA.out.mono ?_
    rintro e w9 ⟨rfl, hb9⟩
    have HB9 := Lib.hid (HB0.out.trans (hb9.mono HB0.out.size))
    clear hb9 CA
    go_wp2_with fail
    (first | go_ret | go_ret2)
    exact ⟨rfl, HB9.out⟩
  by_cases hm : m ≤ 30
  case neg =>
    have q1 : ¬ (n : Int) > 30 := by omega
    have q2 : (m : Int) > 30 := by omega
    clear hn hm HNV HVV HN HM
    have CA := Lib.hid (awake_any _ (HT.out.step HB0.out))
    go_wp2_with fail
    refine CA.out.mono ?_
    rintro e w9 ⟨rfl, hb9⟩
    have HB9 := Lib.hid (HB0.out.trans (hb9.mono HB0.out.size))
    clear hb9 CA
    go_wp2_with fail
    (first | go_ret | go_ret2)
    exact ⟨rfl, HB9.out⟩
  by_cases hs : sz ≤ 1000
  case neg =>
    have q1 : ¬ (n : Int) > 30 := by omega
    have q2 : ¬ (m : Int) > 30 := by omega
    have q3 : (s.size : Int) > 1000 := by omega
    clear hn hm hs hsz HSZ HNV HVV HN HM
    have CA := Lib.hid (awake_any _ (HT.out.step HB0.out))
    go_wp2_with fail
    refine CA.out.mono ?_
    rintro e w9 ⟨rfl, hb9⟩
    have HB9 := Lib.hid (HB0.out.trans (hb9.mono HB0.out.size))
    clear hb9 CA
    go_wp2_with fail
    (first | go_ret | go_ret2)
    exact ⟨rfl, HB9.out⟩
  have q1 : ¬ (n : Int) > 30 := by omega
  have q2 : ¬ (m : Int) > 30 := by omega
  have q3 : ¬ (s.size : Int) > 1000 := by omega
  clear hs hsz
  go_wp2_with fail
  clear q1 q2 q3
  go_loopg [11, 34] (m + 1) (fun kx s11 s34 wr => ∃ (i : Nat) (x2 : Value), x2 = s11 ∧ s34 = .int .i64 i ∧ m - i ≤ kx ∧ i ≤ m ∧ Hid (∀ p ∈ ps.take i, p.cnt ≤ 1000001) ∧ Hid (∃ cs, GW 34 w wr (fun g => P1 g ∧ g < w.heap.size) x2 (ps.take i) cs))
  case atStart => exact ⟨0, _, rfl, rfl, by omega, by omega, by simp [Hid], _, GW.start _ _ _⟩
  case round =>
    obtain ⟨i, x2, rfl, rfl, hkx, hin, HLR, cs, hgw⟩ := hrel
    have HB := Lib.hid hgw.fr
    by_cases hi : i < m
    · have hil : (i : Int) < (m : Int) := by omega
      obtain ⟨p, e⟩ := get_lt (l := ps) (i := i) (by rw [← HM.out]; exact hi)
      obtain ⟨g, o, An2, cn2, A2, c2, hA, hP, hg, hti, z0, z1, z2, z3, z4⟩ := (HVV.out.below HB.out).nth e
      have HTK : Hid (ps.take (i + 1) = ps.take i ++ [p]) := by unfold Hid; rw [List.take_add_one, e]; rfl
      obtain ⟨j, hj⟩ : ∃ j, j = i + 1 := ⟨_, rfl⟩
      rw [← hj] at HTK
      have b1 := bel1 wr (.cells (varr p.hd An2 p.names.length cn2 A2 p.parts.length c2) 25)
      have RX := Lib.hid (RowB.new wr 25 (varr p.hd An2 p.names.length cn2 A2 p.parts.length c2))
      have HTI := Lib.hid (hti.below b1)
      have HGX := Lib.hid (hgw.below b1)
      have hln : (ps.take i).length = i := by rw [List.length_take]; have := HM.out; omega
      have HLN := Lib.hid hln
      obtain ⟨wx, hwx⟩ : ∃ wx, wx = wr.alloc (.cells (varr p.hd An2 p.names.length cn2 A2 p.parts.length c2) 25) := ⟨_, rfl⟩
      rw [← hwx] at RX HTI HGX
      have C1 := Lib.hid (light_any wx p _ An2 cn2 A2 c2 HTI.out)
      obtain ⟨l, hl⟩ : ∃ l, l = p.light := ⟨_, rfl⟩
      rw [← hl] at C1
      have HLL := Lib.hid hl
      have HCN : Hid (l = true → p.cnt ≤ 1000001) := fun h => by
        have := (light_cnt (VI.nsz HTI.out) (hl.symm.trans h)).2.1
        omega
      have HTL : Hid (l = true → ∀ q ∈ ps.take j, q.cnt ≤ 1000001) := fun h q hq => by
        rw [HTK.out] at hq
        rcases List.mem_append.1 hq with hq | hq
        · exact HLR.out q hq
        · obtain rfl := List.mem_singleton.1 hq
          exact HCN.out h
      subst hA
      obtain ⟨ph, np, pp⟩ := p
      simp only [varr, vv, hd_mk, names_mk, parts_mk] at z0 z1 z2 z3 z4 C1 RX hwx
      clear e hti b1 hP hl hgw hln
      have rx := RX.out.cell
      go_wp2_with fail
      rw [← hwx]
      refine C1.out.mono ?_
      rintro e w2 ⟨rfl, h2⟩
      have HG2 := Lib.hid (HGX.out.below h2)
      have HB2 := Lib.hid HG2.out.fr
      have RX2 := Lib.hid (RX.out.below h2 RX.out.lt)
      have HTI2 := Lib.hid (HTI.out.below h2)
      clear h2 C1 z0 z1 z2 z3 z4 rx hwx RX HGX HB HTI
      cases l with
      | false =>
        skip
        clear RX2 HTI2
        have CA := Lib.hid (awake_any _ (HT.out.step HB2.out))
        go_wp2_with fail
        refine CA.out.mono ?_
        rintro e w9 ⟨rfl, hb9⟩
        have HB9 := Lib.hid (HB2.out.trans (hb9.mono HB2.out.size))
        clear hb9 CA
        go_wp2_with fail
        (first | go_ret | go_ret2)
        exact ⟨rfl, HB9.out⟩
      | true =>
        have HTL2 := Lib.hid (HTL.out (by first | rfl | trivial))
        have HCN2 := Lib.hid (HCN.out (by first | rfl | trivial))
        have C3 := Lib.hid (to_any _ HCN2.out w2 _ An2 cn2 A2 c2 HTI2.out)
        have rx := RX2.out.cell
        simp only [vv, hd_mk, names_mk, parts_mk] at C3
        clear HTL HCN
        go_wp2_with fail
        refine C3.out.mono ?_
        rintro e w3 ⟨h3, An5, cn5, A5, c5, rfl, ht5⟩
        obtain ⟨iT, hiT, hzT, hsT, hbT⟩ := info_parts info34
        have Q3 := HG2.out.below h3
        have ht5' := ht5.mono (Q := fun g => (P1 g ∧ g < w.heap.size) ∨ w2.heap.size ≤ g) fun g hg => hg
        have hti := (HG2.out.pend (fun g hg => hg.2) ht5')
        have hl2 : (ps.take i).length + 1 ≤ 1000001 := by have := HLN.out; omega
        have bb3 : (ps.take i).length + 1 ≤ maxLen := by unfold maxLen; omega
        have bb4 : ((ps.take i).length + 1) * 80 ≤ 140737488355328 := by omega
        have HQ3 := Lib.hid Q3
        have HTI3 := Lib.hid hti
        obtain ⟨tl, htl⟩ : ∃ tl, tl = ps.take i := ⟨_, rfl⟩
        rw [← htl] at HQ3 bb3 bb4 HTK HLN
        have HG3 := Lib.hid (HQ3.out.below (bel1 w3 (.cells (yv ph An5 np.length cn5 A5 pp.length c5) 34)))
        have RY := Lib.hid (RowB.new w3 34 (yv ph An5 np.length cn5 A5 pp.length c5))
        have HTI4 := Lib.hid (HTI3.out.below (bel1 w3 (.cells (yv ph An5 np.length cn5 A5 pp.length c5) 34)))
        have oc2 : ∀ u ∈ ((yv ph An5 np.length cn5 A5 pp.length c5) : Array Value).toList, u.oneCell' = true := by simp [Value.oneCell']
        have hsz3 : w.heap.size ≤ (w3.alloc (.cells (yv ph An5 np.length cn5 A5 pp.length c5) 34)).heap.size := HG3.out.fr.size
        clear h3 ht5 ht5' hti Q3 C3 rx hl2 htl
        simp only [vv, hd_mk, names_mk, parts_mk]
        go_wp2_with ((at_builtin; refine wpList_append_lies _ rfl (.tmp 42) (.tmp 45) 32 rfl w.heap.size 34 iT _ 5 80 Tryd.underlying32 hiT hzT hsT hbT rfl (by omega) x2 tl.length cs rfl HG3.out.o2 ⟨w3.heap.size, 0, none⟩ 1 1 ((yv ph An5 np.length cn5 A5 pp.length c5) : Array Value).toList rfl rfl (World.news_of_block RY.out) oc2 (by omega) bb3 bb4 hsz3 _ rfl ?_))
        intro gb capb w5 hown2 hgrow2 hat2 hlt2
        have Q5 := Lib.hid (HG3.out.app HTI4.out hown2 hgrow2 rfl (by have h := hat2; simpa using h))
        have HF5 : Hid (∃ cs, GW 34 w w5 (fun g => P1 g ∧ g < w.heap.size) (.slice (some ⟨gb, 0, none⟩) (tl.length + 1) capb) (ps.take j) cs) := by
          unfold Hid
          rw [HTK.out]
          exact ⟨_, Q5.out⟩
        clear hown2 hgrow2 hat2 hlt2 Q5 HG3 RY HTI4 oc2 hsz3 bb3 bb4 HQ3 HTI3
        go_wp2_with fail
        go_roundg (m - j)
        case measure => omega
        case rel => exact ⟨j, _, rfl, by rw [hj]; go_num, by omega, by omega, HTL2.out, HF5.out⟩
    · have hil : ¬ (i : Int) < (m : Int) := by omega
      obtain rfl : m = i := by omega
      have hgf := hgw
      rw [List.take_of_length_le (by rw [← HM.out]; exact Nat.le_refl _)] at hgf
      obtain ⟨A', c', e2, hvv⟩ := hgf.out
      rw [← HM.out] at e2
      subst e2
      have hL := HLR.out
      rw [List.take_of_length_le (by rw [← HM.out]; exact Nat.le_refl _)] at hL
      have HL := Lib.hid hL
      clear HLR hL hi hgf hgw
      have C0 := record_any wr ns ps (fun _ => True) A0 c0 A' c' ((HNV.out.below HB.out).mono fun _ _ => trivial) (hvv.mono fun _ _ => trivial) (by rw [← HN.out]; omega)
      rw [← HN.out, ← HM.out] at C0
      have CREC := Lib.hid C0
      clear C0 hvv
      go_wp2_with fail
      refine CREC.out.mono ?_
      rintro e w2 ⟨t1, Bn1, dn1, B1, d1, z, rfl, hti, h2, hz⟩
      obtain ⟨hd1, nm1, pt1⟩ := t1
      have b3 := bel1 w2 (.cells (varr hd1 Bn1 nm1.length dn1 B1 pt1.length d1) 34)
      have R9 := Lib.hid (RowB.new w2 34 (varr hd1 Bn1 nm1.length dn1 B1 pt1.length d1))
      have HT1 := Lib.hid (hti.below b3)
      obtain ⟨w3, hw3⟩ : ∃ w3, w3 = w2.alloc (.cells (varr hd1 Bn1 nm1.length dn1 B1 pt1.length d1) 34) := ⟨_, rfl⟩
      rw [← hw3] at b3 R9 HT1
      have HB3 := Lib.hid (HB.out.trans ((h2.trans (b3.mono h2.size)).mono HB.out.size))
      have HZ1 := Lib.hid hz
      have C0 := rrec_any w3 ns ps (fun _ => True) A0 c0 A1 c1 ((HNV.out.below HB3.out).mono fun _ _ => trivial) ((HVV.out.below HB3.out).mono fun _ _ => trivial) (by rw [← HN.out]; omega)
      rw [← HN.out, ← HM.out] at C0
      have CREF := Lib.hid C0
      clear hti h2 b3 CREC hz C0 HB
      have e3 := hw3
      simp only [varr, vv, hd_mk, names_mk, parts_mk] at e3 ⊢
      clear hw3
      go_wp2_with fail
      rw [← e3]
      refine CREF.out.mono ?_
      rintro e w4 ⟨t2, Bn2, dn2, B2, d2, y, rfl, hti, h4, hy⟩
      obtain ⟨rfl, rfl, hz1, hz2, hz3⟩ := recs_one HZ1.out hy
      have b5 := bel1 w4 (.cells (varr hd1 Bn2 nm1.length dn2 B2 pt1.length d2) 25)
      have R11 := Lib.hid (RowB.new w4 25 (varr hd1 Bn2 nm1.length dn2 B2 pt1.length d2))
      have HT2 := Lib.hid (hti.below b5)
      obtain ⟨w5, hw5⟩ : ∃ w5, w5 = w4.alloc (.cells (varr hd1 Bn2 nm1.length dn2 B2 pt1.length d2) 25) := ⟨_, rfl⟩
      rw [← hw5] at b5 R11 HT2
      have h35 := h4.trans (b5.mono h4.size)
      have HT1' := Lib.hid (HT1.out.below h35)
      have R9' := Lib.hid (R9.out.below h35 R9.out.lt)
      have HB5 := Lib.hid (HB3.out.trans (h35.mono HB3.out.size))
      have HZZ : Hid (nm1.length ≤ 1000001 ∧ pt1.length ≤ 1000001 ∧ ∀ p ∈ pt1, p.cnt ≤ 1000001) := ⟨by rw [← HN.out] at hz1; simp only [names_mk] at hz1; omega, by rw [← HN.out] at hz2; simp only [parts_mk] at hz2; omega, fun p hp => HL.out p (hz3 p hp)⟩
      have e5 := hw5
      simp only [varr, vv, hd_mk, names_mk, parts_mk] at e5 ⊢
      clear hti h4 b5 CREF hy hw5 h35 HT1 R9 HB3 e3 HZ1 hz1 hz2 hz3
      go_upto_region 13 with fail
      rw [← e5]
      have D5 : Below w5.heap.size w5 w5.drew := Below.drew (Below.refl _ _)
      have l9 := R9'.out.lt
      have l11 := R11.out.lt
      have c9 := R9'.out.cell
      have c11 := R11.out.cell
      have HTB := Lib.hid (HT.out.step HB5.out)
      clear e5 R9' R11
      refine wp_region_G (S := SG (fun w' => Below w5.heap.size w5 w') 99 (fun _ => True) 99 (fun _ => True)) (by kernel_rfl) ⟨D5, fun _ => trivial, fun _ => trivial⟩ (fun hS => ?_)
      refine wpG_ready (rs := [0]) (by kernel_rfl) (by simp) ?_
      refine RG.consG rfl rfl (fun K hK => ?_) RG.nil
      go_simp
      refine (awake_any _ (HTB.out.step D5)).mono ?_
      rintro e x1 ⟨rfl, hx1⟩
      go_wp2_with fail
      have HG1 := Lib.hid (D5.trans (hx1.mono D5.size))
      clear hx1
      refine hK.out _ _ ⟨HG1.out, fun _ => trivial, fun _ => trivial⟩ (fun hS => ?_)
      clear hK K
      try simp only [Act.put, List.setIfInBounds_toArray, List.set_cons_zero, List.set_cons_succ]
      refine wpG_take0 (i := 1) (v := ?v1) rfl (by kernel_rfl) (by kernel_rfl) (by kernel_rfl) (by decide) (by decide) (fun _ _ _ h => h) hS (Or.inl ⟨by rfl, ?hy1⟩) ?rest1
      case hy1 => (intro w' hw; (try dsimp only at hw); have u9 := fun j => (hw.cell (p := ⟨w2.heap.size, j, none⟩) l9).trans (c9 j); have u11 := fun j => (hw.cell (p := ⟨w4.heap.size, j, none⟩) l11).trans (c11 j); go_simp; try with_reducible rfl)
      replace hS := SG.set (i := 1) (by decide) (by decide) hS
      try simp only [Act.put, List.setIfInBounds_toArray, List.set_cons_zero, List.set_cons_succ]
      refine wpG_take0 (i := 2) (v := ?v2) rfl (by kernel_rfl) (by kernel_rfl) (by kernel_rfl) (by decide) (by decide) (fun _ _ _ h => h) hS (Or.inl ⟨by rfl, ?hy2⟩) ?rest2
      case hy2 => (intro w' hw; (try dsimp only at hw); have u9 := fun j => (hw.cell (p := ⟨w2.heap.size, j, none⟩) l9).trans (c9 j); have u11 := fun j => (hw.cell (p := ⟨w4.heap.size, j, none⟩) l11).trans (c11 j); go_simp; try with_reducible rfl)
      replace hS := SG.set (i := 2) (by decide) (by decide) hS
      try simp only [Act.put, List.setIfInBounds_toArray, List.set_cons_zero, List.set_cons_succ]
      refine wpG_take0 (i := 3) (v := ?v3) rfl (by kernel_rfl) (by kernel_rfl) (by kernel_rfl) (by decide) (by decide) (fun _ _ _ h => h) hS (Or.inl ⟨by rfl, ?hy3⟩) ?rest3
      case hy3 => (intro w' hw; (try dsimp only at hw); have u9 := fun j => (hw.cell (p := ⟨w2.heap.size, j, none⟩) l9).trans (c9 j); have u11 := fun j => (hw.cell (p := ⟨w4.heap.size, j, none⟩) l11).trans (c11 j); go_simp; try with_reducible rfl)
      replace hS := SG.set (i := 3) (by decide) (by decide) hS
      try simp only [Act.put, List.setIfInBounds_toArray, List.set_cons_zero, List.set_cons_succ]
      refine wpG_take0 (i := 4) (v := ?v4) rfl (by kernel_rfl) (by kernel_rfl) (by kernel_rfl) (by decide) (by decide) (fun _ _ _ h => h) hS (Or.inl ⟨by rfl, ?hy4⟩) ?rest4
      case hy4 => (intro w' hw; (try dsimp only at hw); have u9 := fun j => (hw.cell (p := ⟨w2.heap.size, j, none⟩) l9).trans (c9 j); have u11 := fun j => (hw.cell (p := ⟨w4.heap.size, j, none⟩) l11).trans (c11 j); go_simp; try with_reducible rfl)
      replace hS := SG.set (i := 4) (by decide) (by decide) hS
      try simp only [Act.put, List.setIfInBounds_toArray, List.set_cons_zero, List.set_cons_succ]
      refine wpG_take0 (i := 5) (v := ?v5) rfl (by kernel_rfl) (by kernel_rfl) (by kernel_rfl) (by decide) (by decide) (fun _ _ _ h => h) hS (Or.inl ⟨by rfl, ?hy5⟩) ?rest5
      case hy5 => (intro w' hw; (try dsimp only at hw); have u9 := fun j => (hw.cell (p := ⟨w2.heap.size, j, none⟩) l9).trans (c9 j); have u11 := fun j => (hw.cell (p := ⟨w4.heap.size, j, none⟩) l11).trans (c11 j); go_simp; try with_reducible rfl)
      replace hS := SG.set (i := 5) (by decide) (by decide) hS
      try simp only [Act.put, List.setIfInBounds_toArray, List.set_cons_zero, List.set_cons_succ]
      refine wpG_take0 (i := 6) (v := ?v6) rfl (by kernel_rfl) (by kernel_rfl) (by kernel_rfl) (by decide) (by decide) (fun _ _ _ h => h) hS (Or.inl ⟨by rfl, ?hy6⟩) ?rest6
      case hy6 => (intro w' hw; (try dsimp only at hw); have u9 := fun j => (hw.cell (p := ⟨w2.heap.size, j, none⟩) l9).trans (c9 j); have u11 := fun j => (hw.cell (p := ⟨w4.heap.size, j, none⟩) l11).trans (c11 j); go_simp; try with_reducible rfl)
      replace hS := SG.set (i := 6) (by decide) (by decide) hS
      try simp only [Act.put, List.setIfInBounds_toArray, List.set_cons_zero, List.set_cons_succ]
      refine wpG_take0 (i := 7) (v := ?v7) rfl (by kernel_rfl) (by kernel_rfl) (by kernel_rfl) (by decide) (by decide) (fun _ _ _ h => h) hS (Or.inl ⟨by rfl, ?hy7⟩) ?rest7
      case hy7 => (intro w' hw; (try dsimp only at hw); have u9 := fun j => (hw.cell (p := ⟨w2.heap.size, j, none⟩) l9).trans (c9 j); have u11 := fun j => (hw.cell (p := ⟨w4.heap.size, j, none⟩) l11).trans (c11 j); go_simp; try with_reducible rfl)
      replace hS := SG.set (i := 7) (by decide) (by decide) hS
      try simp only [Act.put, List.setIfInBounds_toArray, List.set_cons_zero, List.set_cons_succ]
      refine wpG_take0 (i := 9) (v := ?v8) rfl (by kernel_rfl) (by kernel_rfl) (by kernel_rfl) (by decide) (by decide) (fun _ _ _ h => h) hS (Or.inl ⟨by rfl, ?hy8⟩) ?rest8
      case hy8 => (intro w' hw; (try dsimp only at hw); have u9 := fun j => (hw.cell (p := ⟨w2.heap.size, j, none⟩) l9).trans (c9 j); have u11 := fun j => (hw.cell (p := ⟨w4.heap.size, j, none⟩) l11).trans (c11 j); go_simp; try with_reducible rfl)
      replace hS := SG.set (i := 9) (by decide) (by decide) hS
      try simp only [Act.put, List.setIfInBounds_toArray, List.set_cons_zero, List.set_cons_succ]
      refine wpG_ready (rs := [8]) (by kernel_rfl) (by simp) ?_
      refine RG.consG rfl rfl (fun K hK => ?_) RG.nil
      go_simp
      refine (from_self (.mk hd1 nm1 pt1) HZZ.out.2.1 HZZ.out.2.2 _ _ Bn1 dn1 B1 d1 (HT1'.out.below HG1.out)).mono ?_
      rintro e x2 ⟨hx2, En0, en0, E0, e0, rfl, ht0⟩
      go_wp2_with fail
      have HG2 := Lib.hid (HG1.out.trans (hx2.mono HG1.out.size))
      clear hx2
      refine hK.out _ _ ⟨HG2.out, fun _ => trivial, fun _ => trivial⟩ (fun hS => ?_)
      clear hK K
      try simp only [Act.put, List.setIfInBounds_toArray, List.set_cons_zero, List.set_cons_succ]
      refine wpG_ready (rs := [10]) (by kernel_rfl) (by simp) ?_
      refine RG.consG rfl rfl (fun K hK => ?_) RG.nil
      go_simp
      refine (rsame_self (.mk hd1 nm1 pt1) HZZ.out.1 HZZ.out.2.1 HZZ.out.2.2 _ _ _ En0 en0 E0 e0 Bn2 dn2 B2 d2 ht0 (HT2.out.below HG2.out)).mono ?_
      rintro e x3 ⟨rfl, hx3⟩
      go_wp2_with fail
      have HG3 := Lib.hid (HG2.out.trans (hx3.mono HG2.out.size))
      clear hx3
      clear ht0
      refine hK.out _ _ ⟨HG3.out, fun _ => trivial, fun _ => trivial⟩ (fun hS => ?_)
      clear hK K
      try simp only [Act.put, List.setIfInBounds_toArray, List.set_cons_zero, List.set_cons_succ]
      refine wpG_take0 (i := 11) (v := ?v9) rfl (by kernel_rfl) (by kernel_rfl) (by kernel_rfl) (by decide) (by decide) (fun _ _ _ h => h) hS (Or.inl ⟨by rfl, ?hy9⟩) ?rest9
      case hy9 => (intro w' hw; (try dsimp only at hw); have u9 := fun j => (hw.cell (p := ⟨w2.heap.size, j, none⟩) l9).trans (c9 j); have u11 := fun j => (hw.cell (p := ⟨w4.heap.size, j, none⟩) l11).trans (c11 j); go_simp; try with_reducible rfl)
      replace hS := SG.set (i := 11) (by decide) (by decide) hS
      try simp only [Act.put, List.setIfInBounds_toArray, List.set_cons_zero, List.set_cons_succ]
      refine wpG_take0 (i := 12) (v := ?v10) rfl (by kernel_rfl) (by kernel_rfl) (by kernel_rfl) (by decide) (by decide) (fun _ _ _ h => h) hS (Or.inl ⟨by rfl, ?hy10⟩) ?rest10
      case hy10 => (intro w' hw; (try dsimp only at hw); have u9 := fun j => (hw.cell (p := ⟨w2.heap.size, j, none⟩) l9).trans (c9 j); have u11 := fun j => (hw.cell (p := ⟨w4.heap.size, j, none⟩) l11).trans (c11 j); go_simp; try with_reducible rfl)
      replace hS := SG.set (i := 12) (by decide) (by decide) hS
      try simp only [Act.put, List.setIfInBounds_toArray, List.set_cons_zero, List.set_cons_succ]
      refine wpG_take0 (i := 13) (v := ?v11) rfl (by kernel_rfl) (by kernel_rfl) (by kernel_rfl) (by decide) (by decide) (fun _ _ _ h => h) hS (Or.inl ⟨by rfl, ?hy11⟩) ?rest11
      case hy11 => (intro w' hw; (try dsimp only at hw); have u9 := fun j => (hw.cell (p := ⟨w2.heap.size, j, none⟩) l9).trans (c9 j); have u11 := fun j => (hw.cell (p := ⟨w4.heap.size, j, none⟩) l11).trans (c11 j); go_simp; try with_reducible rfl)
      replace hS := SG.set (i := 13) (by decide) (by decide) hS
      try simp only [Act.put, List.setIfInBounds_toArray, List.set_cons_zero, List.set_cons_succ]
      refine wpG_take0 (i := 16) (v := ?v12) rfl (by kernel_rfl) (by kernel_rfl) (by kernel_rfl) (by decide) (by decide) (fun _ _ _ h => h) hS (Or.inl ⟨by rfl, ?hy12⟩) ?rest12
      case hy12 => (intro w' hw; (try dsimp only at hw); have u9 := fun j => (hw.cell (p := ⟨w2.heap.size, j, none⟩) l9).trans (c9 j); have u11 := fun j => (hw.cell (p := ⟨w4.heap.size, j, none⟩) l11).trans (c11 j); go_simp; try with_reducible rfl)
      replace hS := SG.set (i := 16) (by decide) (by decide) hS
      try simp only [Act.put, List.setIfInBounds_toArray, List.set_cons_zero, List.set_cons_succ]
      refine wpG_take0 (i := 17) (v := ?v13) rfl (by kernel_rfl) (by kernel_rfl) (by kernel_rfl) (by decide) (by decide) (fun _ _ _ h => h) hS (Or.inl ⟨by rfl, ?hy13⟩) ?rest13
      case hy13 => (intro w' hw; (try dsimp only at hw); have u9 := fun j => (hw.cell (p := ⟨w2.heap.size, j, none⟩) l9).trans (c9 j); have u11 := fun j => (hw.cell (p := ⟨w4.heap.size, j, none⟩) l11).trans (c11 j); go_simp; try with_reducible rfl)
      replace hS := SG.set (i := 17) (by decide) (by decide) hS
      try simp only [Act.put, List.setIfInBounds_toArray, List.set_cons_zero, List.set_cons_succ]
      refine wpG_ready (rs := [14]) (by kernel_rfl) (by simp) ?_
      refine RG.consG rfl rfl (fun K hK => ?_) RG.nil
      go_simp
      refine (num_any nn _).mono ?_
      rintro e x4 ⟨rfl, hx4⟩
      go_wp2_with fail
      have HG4 := Lib.hid (HG3.out.trans (hx4.mono HG3.out.size))
      clear hx4
      refine hK.out _ _ ⟨HG4.out, fun _ => trivial, fun _ => trivial⟩ (fun hS => ?_)
      clear hK K
      try simp only [Act.put, List.setIfInBounds_toArray, List.set_cons_zero, List.set_cons_succ]
      refine wpG_ready (rs := [15]) (by kernel_rfl) (by simp) ?_
      refine RG.consG rfl rfl (fun K hK => ?_) RG.nil
      go_simp
      refine (from_any (.mk ⟨1, nn, ⟨#[]⟩⟩ [] []) (by simp [Vl.cnt, cntL]) _ _ none 0 none 0 (leaf_vi _ _)).mono ?_
      rintro e x5 ⟨hx5, En1, en1, E1, e1, rfl, ht1⟩
      go_wp2_with fail
      have HG5 := Lib.hid (HG4.out.trans (hx5.mono HG4.out.size))
      clear hx5
      refine hK.out _ _ ⟨HG5.out, fun _ => trivial, fun _ => trivial⟩ (fun hS => ?_)
      clear hK K
      try simp only [Act.put, List.setIfInBounds_toArray, List.set_cons_zero, List.set_cons_succ]
      refine wpG_ready (rs := [18]) (by kernel_rfl) (by simp) ?_
      refine RG.consG rfl rfl (fun K hK => ?_) RG.nil
      go_simp
      refine (rsame_self (.mk ⟨1, nn, ⟨#[]⟩⟩ [] []) (by simp) (by simp) (by simp) _ _ _ En1 en1 E1 e1 none 0 none 0 ht1 (leaf_vi _ _)).mono ?_
      rintro e x6 ⟨rfl, hx6⟩
      go_wp2_with fail
      have HG6 := Lib.hid (HG5.out.trans (hx6.mono HG5.out.size))
      clear hx6
      clear ht1
      refine hK.out _ _ ⟨HG6.out, fun _ => trivial, fun _ => trivial⟩ (fun hS => ?_)
      clear hK K
      try simp only [Act.put, List.setIfInBounds_toArray, List.set_cons_zero, List.set_cons_succ]
      refine wpG_take0 (i := 19) (v := ?v14) rfl (by kernel_rfl) (by kernel_rfl) (by kernel_rfl) (by decide) (by decide) (fun _ _ _ h => h) hS (Or.inl ⟨by rfl, ?hy14⟩) ?rest14
      case hy14 => (intro w' hw; (try dsimp only at hw); have u9 := fun j => (hw.cell (p := ⟨w2.heap.size, j, none⟩) l9).trans (c9 j); have u11 := fun j => (hw.cell (p := ⟨w4.heap.size, j, none⟩) l11).trans (c11 j); go_simp; try with_reducible rfl)
      replace hS := SG.set (i := 19) (by decide) (by decide) hS
      try simp only [Act.put, List.setIfInBounds_toArray, List.set_cons_zero, List.set_cons_succ]
      refine wpG_take0 (i := 20) (v := ?v15) rfl (by kernel_rfl) (by kernel_rfl) (by kernel_rfl) (by decide) (by decide) (fun _ _ _ h => h) hS (Or.inl ⟨by rfl, ?hy15⟩) ?rest15
      case hy15 => (intro w' hw; (try dsimp only at hw); have u9 := fun j => (hw.cell (p := ⟨w2.heap.size, j, none⟩) l9).trans (c9 j); have u11 := fun j => (hw.cell (p := ⟨w4.heap.size, j, none⟩) l11).trans (c11 j); go_simp; try with_reducible rfl)
      replace hS := SG.set (i := 20) (by decide) (by decide) hS
      try simp only [Act.put, List.setIfInBounds_toArray, List.set_cons_zero, List.set_cons_succ]
      refine wpG_take0 (i := 21) (v := ?v16) rfl (by kernel_rfl) (by kernel_rfl) (by kernel_rfl) (by decide) (by decide) (fun _ _ _ h => h) hS (Or.inl ⟨by rfl, ?hy16⟩) ?rest16
      case hy16 => (intro w' hw; (try dsimp only at hw); have u9 := fun j => (hw.cell (p := ⟨w2.heap.size, j, none⟩) l9).trans (c9 j); have u11 := fun j => (hw.cell (p := ⟨w4.heap.size, j, none⟩) l11).trans (c11 j); go_simp; try with_reducible rfl)
      replace hS := SG.set (i := 21) (by decide) (by decide) hS
      try simp only [Act.put, List.setIfInBounds_toArray, List.set_cons_zero, List.set_cons_succ]
      refine wpG_take0 (i := 24) (v := ?v17) rfl (by kernel_rfl) (by kernel_rfl) (by kernel_rfl) (by decide) (by decide) (fun _ _ _ h => h) hS (Or.inl ⟨by rfl, ?hy17⟩) ?rest17
      case hy17 => (intro w' hw; (try dsimp only at hw); have u9 := fun j => (hw.cell (p := ⟨w2.heap.size, j, none⟩) l9).trans (c9 j); have u11 := fun j => (hw.cell (p := ⟨w4.heap.size, j, none⟩) l11).trans (c11 j); go_simp; try with_reducible rfl)
      replace hS := SG.set (i := 24) (by decide) (by decide) hS
      try simp only [Act.put, List.setIfInBounds_toArray, List.set_cons_zero, List.set_cons_succ]
      refine wpG_take0 (i := 25) (v := ?v18) rfl (by kernel_rfl) (by kernel_rfl) (by kernel_rfl) (by decide) (by decide) (fun _ _ _ h => h) hS (Or.inl ⟨by rfl, ?hy18⟩) ?rest18
      case hy18 => (intro w' hw; (try dsimp only at hw); have u9 := fun j => (hw.cell (p := ⟨w2.heap.size, j, none⟩) l9).trans (c9 j); have u11 := fun j => (hw.cell (p := ⟨w4.heap.size, j, none⟩) l11).trans (c11 j); go_simp; try with_reducible rfl)
      replace hS := SG.set (i := 25) (by decide) (by decide) hS
      try simp only [Act.put, List.setIfInBounds_toArray, List.set_cons_zero, List.set_cons_succ]
      refine wpG_ready (rs := [22]) (by kernel_rfl) (by simp) ?_
      refine RG.consG rfl rfl (fun K hK => ?_) RG.nil
      go_simp
      refine (str_any s _).mono ?_
      rintro e x7 ⟨rfl, hx7⟩
      go_wp2_with fail
      have HG7 := Lib.hid (HG6.out.trans (hx7.mono HG6.out.size))
      clear hx7
      refine hK.out _ _ ⟨HG7.out, fun _ => trivial, fun _ => trivial⟩ (fun hS => ?_)
      clear hK K
      try simp only [Act.put, List.setIfInBounds_toArray, List.set_cons_zero, List.set_cons_succ]
      refine wpG_ready (rs := [23]) (by kernel_rfl) (by simp) ?_
      refine RG.consG rfl rfl (fun K hK => ?_) RG.nil
      go_simp
      refine (from_any (.mk ⟨2, 0, s⟩ [] []) (by simp [Vl.cnt, cntL]) _ _ none 0 none 0 (leaf_vi _ _)).mono ?_
      rintro e x8 ⟨hx8, En2, en2, E2, e2, rfl, ht2⟩
      go_wp2_with fail
      have HG8 := Lib.hid (HG7.out.trans (hx8.mono HG7.out.size))
      clear hx8
      refine hK.out _ _ ⟨HG8.out, fun _ => trivial, fun _ => trivial⟩ (fun hS => ?_)
      clear hK K
      try simp only [Act.put, List.setIfInBounds_toArray, List.set_cons_zero, List.set_cons_succ]
      refine wpG_ready (rs := [26]) (by kernel_rfl) (by simp) ?_
      refine RG.consG rfl rfl (fun K hK => ?_) RG.nil
      go_simp
      refine (rsame_self (.mk ⟨2, 0, s⟩ [] []) (by simp) (by simp) (by simp) _ _ _ En2 en2 E2 e2 none 0 none 0 ht2 (leaf_vi _ _)).mono ?_
      rintro e x9 ⟨rfl, hx9⟩
      go_wp2_with fail
      have HG9 := Lib.hid (HG8.out.trans (hx9.mono HG8.out.size))
      clear hx9
      clear ht2
      refine hK.out _ _ ⟨HG9.out, fun _ => trivial, fun _ => trivial⟩ (fun hS => ?_)
      clear hK K
      try simp only [Act.put, List.setIfInBounds_toArray, List.set_cons_zero, List.set_cons_succ]
      refine wpG_take0 (i := 27) (v := ?v19) rfl (by kernel_rfl) (by kernel_rfl) (by kernel_rfl) (by decide) (by decide) (fun _ _ _ h => h) hS (Or.inl ⟨by rfl, ?hy19⟩) ?rest19
      case hy19 => (intro w' hw; (try dsimp only at hw); have u9 := fun j => (hw.cell (p := ⟨w2.heap.size, j, none⟩) l9).trans (c9 j); have u11 := fun j => (hw.cell (p := ⟨w4.heap.size, j, none⟩) l11).trans (c11 j); go_simp; try with_reducible rfl)
      replace hS := SG.set (i := 27) (by decide) (by decide) hS
      try simp only [Act.put, List.setIfInBounds_toArray, List.set_cons_zero, List.set_cons_succ]
      refine wpG_take0 (i := 28) (v := ?v20) rfl (by kernel_rfl) (by kernel_rfl) (by kernel_rfl) (by decide) (by decide) (fun _ _ _ h => h) hS (Or.inl ⟨by rfl, ?hy20⟩) ?rest20
      case hy20 => (intro w' hw; (try dsimp only at hw); have u9 := fun j => (hw.cell (p := ⟨w2.heap.size, j, none⟩) l9).trans (c9 j); have u11 := fun j => (hw.cell (p := ⟨w4.heap.size, j, none⟩) l11).trans (c11 j); go_simp; try with_reducible rfl)
      replace hS := SG.set (i := 28) (by decide) (by decide) hS
      try simp only [Act.put, List.setIfInBounds_toArray, List.set_cons_zero, List.set_cons_succ]
      refine wpG_take0 (i := 29) (v := ?v21) rfl (by kernel_rfl) (by kernel_rfl) (by kernel_rfl) (by decide) (by decide) (fun _ _ _ h => h) hS (Or.inl ⟨by rfl, ?hy21⟩) ?rest21
      case hy21 => (intro w' hw; (try dsimp only at hw); have u9 := fun j => (hw.cell (p := ⟨w2.heap.size, j, none⟩) l9).trans (c9 j); have u11 := fun j => (hw.cell (p := ⟨w4.heap.size, j, none⟩) l11).trans (c11 j); go_simp; try with_reducible rfl)
      replace hS := SG.set (i := 29) (by decide) (by decide) hS
      try simp only [Act.put, List.setIfInBounds_toArray, List.set_cons_zero, List.set_cons_succ]
      refine wpG_take0 (i := 32) (v := ?v22) rfl (by kernel_rfl) (by kernel_rfl) (by kernel_rfl) (by decide) (by decide) (fun _ _ _ h => h) hS (Or.inl ⟨by rfl, ?hy22⟩) ?rest22
      case hy22 => (intro w' hw; (try dsimp only at hw); have u9 := fun j => (hw.cell (p := ⟨w2.heap.size, j, none⟩) l9).trans (c9 j); have u11 := fun j => (hw.cell (p := ⟨w4.heap.size, j, none⟩) l11).trans (c11 j); go_simp; try with_reducible rfl)
      replace hS := SG.set (i := 32) (by decide) (by decide) hS
      try simp only [Act.put, List.setIfInBounds_toArray, List.set_cons_zero, List.set_cons_succ]
      refine wpG_take0 (i := 33) (v := ?v23) rfl (by kernel_rfl) (by kernel_rfl) (by kernel_rfl) (by decide) (by decide) (fun _ _ _ h => h) hS (Or.inl ⟨by rfl, ?hy23⟩) ?rest23
      case hy23 => (intro w' hw; (try dsimp only at hw); have u9 := fun j => (hw.cell (p := ⟨w2.heap.size, j, none⟩) l9).trans (c9 j); have u11 := fun j => (hw.cell (p := ⟨w4.heap.size, j, none⟩) l11).trans (c11 j); go_simp; try with_reducible rfl)
      replace hS := SG.set (i := 33) (by decide) (by decide) hS
      try simp only [Act.put, List.setIfInBounds_toArray, List.set_cons_zero, List.set_cons_succ]
      refine wpG_ready (rs := [30]) (by kernel_rfl) (by simp) ?_
      refine RG.consG rfl rfl (fun K hK => ?_) RG.nil
      go_simp
      refine (fun_any kk _).mono ?_
      rintro e x10 ⟨rfl, hx10⟩
      go_wp2_with fail
      have HG10 := Lib.hid (HG9.out.trans (hx10.mono HG9.out.size))
      clear hx10
      refine hK.out _ _ ⟨HG10.out, fun _ => trivial, fun _ => trivial⟩ (fun hS => ?_)
      clear hK K
      try simp only [Act.put, List.setIfInBounds_toArray, List.set_cons_zero, List.set_cons_succ]
      refine wpG_ready (rs := [31]) (by kernel_rfl) (by simp) ?_
      refine RG.consG rfl rfl (fun K hK => ?_) RG.nil
      go_simp
      refine (from_any (.mk ⟨4, kk, ⟨#[]⟩⟩ [] []) (by simp [Vl.cnt, cntL]) _ _ none 0 none 0 (leaf_vi _ _)).mono ?_
      rintro e x11 ⟨hx11, En3, en3, E3, e3, rfl, ht3⟩
      go_wp2_with fail
      have HG11 := Lib.hid (HG10.out.trans (hx11.mono HG10.out.size))
      clear hx11
      refine hK.out _ _ ⟨HG11.out, fun _ => trivial, fun _ => trivial⟩ (fun hS => ?_)
      clear hK K
      try simp only [Act.put, List.setIfInBounds_toArray, List.set_cons_zero, List.set_cons_succ]
      refine wpG_ready (rs := [34]) (by kernel_rfl) (by simp) ?_
      refine RG.consG rfl rfl (fun K hK => ?_) RG.nil
      go_simp
      refine (rsame_self (.mk ⟨4, kk, ⟨#[]⟩⟩ [] []) (by simp) (by simp) (by simp) _ _ _ En3 en3 E3 e3 none 0 none 0 ht3 (leaf_vi _ _)).mono ?_
      rintro e x12 ⟨rfl, hx12⟩
      go_wp2_with fail
      have HG12 := Lib.hid (HG11.out.trans (hx12.mono HG11.out.size))
      clear hx12
      clear ht3
      refine hK.out _ _ ⟨HG12.out, fun _ => trivial, fun _ => trivial⟩ (fun hS => ?_)
      clear hK K
      try simp only [Act.put, List.setIfInBounds_toArray, List.set_cons_zero, List.set_cons_succ]
      refine wpG_take0 (i := 35) (v := ?v24) rfl (by kernel_rfl) (by kernel_rfl) (by kernel_rfl) (by decide) (by decide) (fun _ _ _ h => h) hS (Or.inl ⟨by rfl, ?hy24⟩) ?rest24
      case hy24 => (intro w' hw; (try dsimp only at hw); have u9 := fun j => (hw.cell (p := ⟨w2.heap.size, j, none⟩) l9).trans (c9 j); have u11 := fun j => (hw.cell (p := ⟨w4.heap.size, j, none⟩) l11).trans (c11 j); go_simp; try with_reducible rfl)
      replace hS := SG.set (i := 35) (by decide) (by decide) hS
      try simp only [Act.put, List.setIfInBounds_toArray, List.set_cons_zero, List.set_cons_succ]
      refine wpG_take0 (i := 36) (v := ?v25) rfl (by kernel_rfl) (by kernel_rfl) (by kernel_rfl) (by decide) (by decide) (fun _ _ _ h => h) hS (Or.inl ⟨by rfl, ?hy25⟩) ?rest25
      case hy25 => (intro w' hw; (try dsimp only at hw); have u9 := fun j => (hw.cell (p := ⟨w2.heap.size, j, none⟩) l9).trans (c9 j); have u11 := fun j => (hw.cell (p := ⟨w4.heap.size, j, none⟩) l11).trans (c11 j); go_simp; try with_reducible rfl)
      replace hS := SG.set (i := 36) (by decide) (by decide) hS
      try simp only [Act.put, List.setIfInBounds_toArray, List.set_cons_zero, List.set_cons_succ]
      refine wpG_done (by kernel_rfl) ?_ _
      clear hS
      go_wp2_with fail
      (first | go_ret | go_ret2)
      exact ⟨rfl, HB5.out.trans (HG12.out.mono HB5.out.size)⟩
end Vm
end Go.Proofs.YtbjlhdjcdinmhaaDoor
