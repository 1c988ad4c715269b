/- Contracts: whether two values are the same: the program's way and the document's. -/
import Derived.Test.YtbjlhdjcdinmhaaDoorQG
namespace Go.Proofs.YtbjlhdjcdinmhaaDoor
open Go.RowKit
namespace Vm
theorem zipB_same : ∀ l m : List Vl, zipB Vl.same l m = sameL l m
  | [], [] => by simp [zipB, sameL]
  | [], _ :: _ => by simp [zipB, sameL]
  | _ :: _, [] => by simp [zipB, sameL]
  | a :: l, b :: m => by rw [zipB, sameL, zipB_same l m]
set_option maxHeartbeats 8000000 in
set_option maxRecDepth 100000 in
theorem psame_step (ps : List Vl) (qs : List Vl) (hl : ps.length ≤ 1000001) (hl' : qs.length ≤ 1000001)
    (IH : ∀ a ∈ ps, ∀ b ∈ qs, ∀ (w : World) (P P' : Nat → Prop) (An : Option Addr) (cn : Nat) (A : Option Addr) (c : Nat) (Bn : Option Addr) (dn : Nat) (B : Option Addr) (d : Nat), VI w P a An cn A c → VI w P' b Bn dn B d →
      Calls Tryd.prog 15 #[vv a An cn A c, vv b Bn dn B d] w fun e w' => e = .returned (.bool (a.same b)) ∧ Below w.heap.size w w')
    (w : World) (P P' : Nat → Prop) (k k' : VH) (ns ms : List ByteArray) (hn : ns.length ≤ 1000001) (hn' : ms.length ≤ 1000001) (An : Option Addr) (cn : Nat) (A : Option Addr) (c : Nat) (Bn : Option Addr) (dn : Nat) (B : Option Addr) (d : Nat) (hN : NV w P ns An cn) (hN' : NV w P' ms Bn dn) (h : VV w P ps A c) (h' : VV w P' qs B d) (r : Bool) (hr : r = (decide (k = k') && decide (ns = ms) && sameL ps qs)) :
    Calls Tryd.prog 15 #[.agg (varr k An ns.length cn A ps.length c), .agg (varr k' Bn ms.length dn B qs.length d)] w fun e w' => e = .returned (.bool r) ∧ Below w.heap.size w w' := by
  have b1 : Below w.heap.size w (w.alloc (.cells (varr k An ns.length cn A ps.length c) 34)) := bel1 w _
  have b2 : Below (w.alloc (.cells (varr k An ns.length cn A ps.length c) 34)).heap.size (w.alloc (.cells (varr k An ns.length cn A ps.length c) 34)) _ := bel1 _ (.cells (varr k' Bn ms.length dn B qs.length d) 34)
  have HB0 := Lib.hid (b1.trans (b2.mono b1.size))
  have r1 := ((RowB.new w 34 (varr k An ns.length cn A ps.length c)).alloc (.cells (varr k' Bn ms.length dn B qs.length d) 34))
  have r2 : RowB ((w.alloc (.cells (varr k An ns.length cn A ps.length c) 34)).alloc (.cells (varr k' Bn ms.length dn B qs.length d) 34)) (w.heap.size + 1) 34 (varr k' Bn ms.length dn B qs.length d) := by
    have := (RowB.new (w.alloc (.cells (varr k An ns.length cn A ps.length c) 34)) 34 (varr k' Bn ms.length dn B qs.length d))
    simpa using this
  have C1 := Lib.hid (eqs_any _ ns ms P P' An Bn cn dn ((hN.below b1).below b2) ((hN'.below b1).below b2) hn hn')
  have HT := Lib.hid ((h.below b1).below b2)
  have HT' := Lib.hid ((h'.below b1).below b2)
  have HR1 := Lib.hid r1
  have HR2 := Lib.hid r2
  have rc1 := r1.cell
  have rc2 := r2.cell
  have HI := Lib.hid IH
  have HR := Lib.hid hr
  clear b1 b2 hN hN' h h' IH r1 r2 hr
  by_cases hk : k = k'
  · have hk2 : k = k' := hk
    subst hk2
    have hk1 : (k.s.toList == k.s.toList) = true := by rw [beq_iff_eq]
    have HU : Hid (k = k) := rfl
    obtain ⟨b, hb⟩ : ∃ b, b = decide (ns = ms) := ⟨_, rfl⟩
    have HBB := Lib.hid hb
    rw [← hb] at C1
    have HR : Hid (r = (b && sameL ps qs)) := by unfold Hid; rw [HR.out, decide_eq_true rfl, ← HBB.out, Bool.true_and]
    clear hk hb HBB HU
    go_enter Tryd.func15, Tryd.ntmps15
    go_wp2_with fail
    refine C1.out.mono ?_
    rintro e w1 ⟨rfl, h1⟩
    have HB1 := Lib.hid (HB0.out.trans (h1.mono HB0.out.size))
    cases b
    · clear h1 C1 rc1 rc2
      go_wp2_with fail
      (first | go_ret | go_ret2)
      exact ⟨by rw [HR.out]; rfl, HB1.out⟩
    · have C2 := Lib.hid (equalf_any w1 (.func (.func 15) #[] #[]) ps qs Vl.same P P' A B c d ⟨15, #[], rfl, fun _ _ _ => rfl, fun a ha b hb w' P P' An cn A c Bn dn B d _ u u' => HI.out a ha b hb w' P P' An cn A c Bn dn B d u u'⟩ (HT.out.below h1) (HT'.out.below h1) hl hl')
      have HR1' := HR1.out.below h1 HR1.out.lt
      have HR2' := HR2.out.below h1 HR2.out.lt
      have rd1 := HR1'.cell
      have rd2 := HR2'.cell
      rw [zipB_same] at C2
      have HR : Hid (r = sameL ps qs) := by unfold Hid; rw [HR.out, Bool.true_and]
      generalize sameL ps qs = b2 at C2 HR
      clear h1 C1 rc1 rc2 HR1' HR2'
      go_wp2_with fail
      refine C2.out.mono ?_
      rintro e w2 ⟨rfl, h2⟩
      have HB2 := Lib.hid (HB1.out.trans (h2.mono HB1.out.size))
      clear h2 C2 rd1 rd2
      go_wp2_with fail
      (first | go_ret | go_ret2)
      exact ⟨by rw [HR.out]; rfl, HB2.out⟩
  · have HF : Hid (r = false) := by unfold Hid; rw [HR.out, decide_eq_false hk, Bool.false_and, Bool.false_and]
    have key : ∀ (x y z : Bool), (k.kind == k'.kind) = x → (k.n == k'.n) = y → (k.s.toList == k'.s.toList) = z → (x && y && z) = false → Calls Tryd.prog 15 #[.agg (varr k An ns.length cn A ps.length c), .agg (varr k' Bn ms.length dn B qs.length d)] w fun e w' => e = .returned (.bool r) ∧ Below w.heap.size w w' := by
      intro x y z hx hy hz hxyz
      clear hk HI HR C1
      cases x
      · clear hxyz
        go_enter Tryd.func15, Tryd.ntmps15
        go_wp2_with fail
        (first | go_ret | go_ret2)
        exact ⟨by rw [HF.out]; rfl, HB0.out⟩
      · cases y
        · clear hxyz
          go_enter Tryd.func15, Tryd.ntmps15
          go_wp2_with fail
          (first | go_ret | go_ret2)
          exact ⟨by rw [HF.out]; rfl, HB0.out⟩
        · cases z
          · clear hxyz
            go_enter Tryd.func15, Tryd.ntmps15
            go_wp2_with fail
            (first | go_ret | go_ret2)
            exact ⟨by rw [HF.out]; rfl, HB0.out⟩
          · cases hxyz
    refine key _ _ _ rfl rfl rfl ?_
    by_cases h1 : k.kind = k'.kind
    · by_cases h2 : k.n = k'.n
      · have h3 : ¬ k.s = k'.s := fun e => hk (by cases k; cases k'; simp_all)
        rw [beq_ba, decide_eq_false h3, Bool.and_false]
      · rw [beq_eq_false_iff_ne.2 h2, Bool.and_false, Bool.false_and]
    · rw [beq_eq_false_iff_ne.2 h1, Bool.false_and, Bool.false_and]

theorem psame_any : ∀ t : Vl, t.cnt ≤ 1000001 → ∀ t' : Vl, t'.cnt ≤ 1000001 → ∀ (w : World) (P P' : Nat → Prop) (An : Option Addr) (cn : Nat) (A : Option Addr) (c : Nat) (Bn : Option Addr) (dn : Nat) (B : Option Addr) (d : Nat), VI w P t An cn A c → VI w P' t' Bn dn B d →
      Calls Tryd.prog 15 #[vv t An cn A c, vv t' Bn dn B d] w fun e w' => e = .returned (.bool (t.same t')) ∧ Below w.heap.size w w' := by
  refine Vl.ind fun k ns ps ih hc t' hc' w P P' An cn A c Bn dn B d h h' => ?_
  obtain ⟨k', ms, qs⟩ := t'
  rw [Vl.cnt] at hc hc'
  have e1 := cntL_len ps
  have e2 := cntL_len qs
  exact psame_step ps qs (by omega) (by omega) (fun a ha b hb => ih a ha (by have := cnt_mem ha; omega) b (by have := cnt_mem hb; omega)) w P P' k k' ns ms (by omega) (by omega) An cn A c Bn dn B d (VI_iff.1 h).1 (VI_iff.1 h').1 (VI_iff.1 h).2 (VI_iff.1 h').2 _ (by rw [Vl.same])

set_option maxHeartbeats 8000000 in
set_option maxRecDepth 100000 in
theorem rsame_step (ps : List Vl) (qs : List Vl) (hl : ps.length ≤ 1000001) (hl' : qs.length ≤ 1000001)
    (IH : ∀ a ∈ ps, ∀ b ∈ qs, ∀ (w : World) (P P' : Nat → Prop) (An : Option Addr) (cn : Nat) (A : Option Addr) (c : Nat) (Bn : Option Addr) (dn : Nat) (B : Option Addr) (d : Nat), VI w P a An cn A c → VI w P' b Bn dn B d →
      Calls Tryd.prog 16 #[vv a An cn A c, vv b Bn dn B d] w fun e w' => e = .returned (.bool (a.same b)) ∧ Below w.heap.size w w')
    (w : World) (P P' : Nat → Prop) (k k' : VH) (ns ms : List ByteArray) (hn : ns.length ≤ 1000001) (hn' : ms.length ≤ 1000001) (An : Option Addr) (cn : Nat) (A : Option Addr) (c : Nat) (Bn : Option Addr) (dn : Nat) (B : Option Addr) (d : Nat) (hN : NV w P ns An cn) (hN' : NV w P' ms Bn dn) (h : VV w P ps A c) (h' : VV w P' qs B d) (r : Bool) (hr : r = (decide (k = k') && decide (ns = ms) && sameL ps qs)) :
    Calls Tryd.prog 16 #[.agg (varr k An ns.length cn A ps.length c), .agg (varr k' Bn ms.length dn B qs.length d)] w fun e w' => e = .returned (.bool r) ∧ Below w.heap.size w w' := by
  obtain ⟨m, hm⟩ : ∃ m, m = ns.length := ⟨_, rfl⟩
  obtain ⟨m', hm'⟩ : ∃ m', m' = ms.length := ⟨_, rfl⟩
  obtain ⟨n, hnn⟩ : ∃ n, n = ps.length := ⟨_, rfl⟩
  obtain ⟨n', hnn'⟩ : ∃ n', n' = qs.length := ⟨_, rfl⟩
  rw [← hm, ← hm', ← hnn, ← hnn']
  have b1 : Below w.heap.size w (w.alloc (.cells (varr k An m cn A n c) 25)) := bel1 w _
  have b2 : Below (w.alloc (.cells (varr k An m cn A n c) 25)).heap.size (w.alloc (.cells (varr k An m cn A n c) 25)) _ := bel1 _ (.cells (varr k' Bn m' dn B n' d) 25)
  have HB0 := Lib.hid (b1.trans (b2.mono b1.size))
  have r1 := ((RowB.new w 25 (varr k An m cn A n c)).alloc (.cells (varr k' Bn m' dn B n' d) 25))
  have r2 : RowB ((w.alloc (.cells (varr k An m cn A n c) 25)).alloc (.cells (varr k' Bn m' dn B n' d) 25)) (w.heap.size + 1) 25 (varr k' Bn m' dn B n' d) := by
    have := (RowB.new (w.alloc (.cells (varr k An m cn A n c) 25)) 25 (varr k' Bn m' dn B n' d))
    simpa using this
  have HNA := Lib.hid ((hN.below b1).below b2)
  have HNB := Lib.hid ((hN'.below b1).below b2)
  have HT := Lib.hid ((h.below b1).below b2)
  have HT' := Lib.hid ((h'.below b1).below b2)
  have HR1 := Lib.hid r1
  have HR2 := Lib.hid r2
  have rc1 := r1.cell
  have rc2 := r2.cell
  have HI := Lib.hid IH
  have HR := Lib.hid hr
  have hm1 : m ≤ 1000001 := by omega
  have hm2 : m' ≤ 1000001 := by omega
  have hn1 : n ≤ 1000001 := by omega
  have hn2 : n' ≤ 1000001 := by omega
  have HM := Lib.hid hm
  have HM' := Lib.hid hm'
  have HL := Lib.hid hnn
  have HL' := Lib.hid hnn'
  clear b1 b2 hN hN' h h' IH r1 r2 hr hm hm' hnn hnn' hn hn' hl hl'
  by_cases hk : k = k' ∧ m = m' ∧ n = n'
  case neg =>
    have HF : Hid (r = false) := by
      unfold Hid
      rw [HR.out]
      by_cases h1 : k = k'
      · by_cases h2 : m = m'
        · have h3 : ¬ sameL ps qs = true := fun e => hk ⟨h1, h2, by rw [HL.out, HL'.out, sameL_len e]⟩
          rw [Bool.eq_false_iff.2 h3, Bool.and_false]
        · rw [decide_eq_false (p := ns = ms) (fun e => h2 (by rw [HM.out, HM'.out, e])), Bool.and_false, Bool.false_and]
      · rw [decide_eq_false h1, Bool.false_and, Bool.false_and]
    have key : ∀ (x y v y2 z2 : Bool), (k.kind != k'.kind) = x → (k.n != k'.n) = y → (k.s.toList == k'.s.toList) = !v → ((m : Int) != (m' : Int)) = y2 → ((n : Int) != (n' : Int)) = z2 → (x || y || v || y2 || z2) = true → Calls Tryd.prog 16 #[.agg (varr k An m cn A n c), .agg (varr k' Bn m' dn B n' d)] w fun e w' => e = .returned (.bool r) ∧ Below w.heap.size w w' := by
      intro x y v y2 z2 hx hy hv hy2 hz2 hxyz
      clear hk HI HR
      cases x
      · cases y
        · cases v
          · cases y2
            · cases z2
              · cases hxyz
              · clear hxyz
                go_enter Tryd.func16, Tryd.ntmps16
                go_wp2_with fail
                (first | go_ret | go_ret2)
                exact ⟨by rw [HF.out]; rfl, HB0.out⟩
            · clear hxyz
              go_enter Tryd.func16, Tryd.ntmps16
              go_wp2_with fail
              (first | go_ret | go_ret2)
              exact ⟨by rw [HF.out]; rfl, HB0.out⟩
          · clear hxyz
            go_enter Tryd.func16, Tryd.ntmps16
            go_wp2_with fail
            (first | go_ret | go_ret2)
            exact ⟨by rw [HF.out]; rfl, HB0.out⟩
        · clear hxyz
          go_enter Tryd.func16, Tryd.ntmps16
          go_wp2_with fail
          (first | go_ret | go_ret2)
          exact ⟨by rw [HF.out]; rfl, HB0.out⟩
      · clear hxyz
        go_enter Tryd.func16, Tryd.ntmps16
        go_wp2_with fail
        (first | go_ret | go_ret2)
        exact ⟨by rw [HF.out]; rfl, HB0.out⟩
    by_cases h1 : k.kind = k'.kind
    · by_cases h2 : k.n = k'.n
      · by_cases h3 : k.s = k'.s
        · by_cases h4 : m = m'
          · refine key false false false false true (by simpa using h1) (by simpa using h2) (by rw [beq_ba]; simpa using h3) (by simp [h4]) ?_ rfl
            rw [bne_iff_ne]
            intro e
            exact hk ⟨(by cases k; cases k'; simp_all), h4, (by omega)⟩
          · have h5 : ((m : Int) != (m' : Int)) = true := by rw [bne_iff_ne]; omega
            exact key _ _ (decide (k.s ≠ k'.s)) _ _ rfl rfl (by rw [beq_ba]; simp [h3]) rfl rfl (by rw [h5]; simp)
        · exact key _ _ true _ _ rfl rfl (by rw [beq_ba]; simpa using h3) rfl rfl (by simp)
      · exact key _ true (decide (k.s ≠ k'.s)) _ _ rfl (by rw [bne_iff_ne]; exact h2) (by rw [beq_ba]; simp) rfl rfl (by simp)
    · exact key true _ (decide (k.s ≠ k'.s)) _ _ (by rw [bne_iff_ne]; exact h1) rfl (by rw [beq_ba]; simp) rfl rfl (by simp)
  obtain ⟨rfl, rfl, rfl⟩ := hk
  have hks : (k.s.toList == k.s.toList) = true := by rw [beq_iff_eq]
  have HRa : Hid (r = (decide (ns = ms) && sameL ps qs)) := by unfold Hid; rw [HR.out, decide_eq_true rfl, Bool.true_and]
  clear HR
  go_enter Tryd.func16, Tryd.ntmps16
  go_wp2_with fail
  obtain ⟨W, hW⟩ : ∃ W, W = (w.alloc (.cells (varr k An m cn A n c) 25)).alloc (.cells (varr k Bn m dn B n d) 25) := ⟨_, rfl⟩
  rw [← hW] at HB0 HNA HNB HT HT' HR1 HR2 rc1 rc2 ⊢
  clear hW rc1 rc2
  go_loopg [5] (m + 1) (fun kx s5 wr => ∃ i : Nat, s5 = .int .i64 i ∧ m - i ≤ kx ∧ i ≤ m ∧ Hid (ns.take i = ms.take i) ∧ Hid (Below W.heap.size W wr))
  case atStart => exact ⟨0, rfl, by omega, by omega, by simp [Hid], Below.refl _ _⟩
  case round =>
    obtain ⟨i, rfl, hkx, hin, HQ, HB⟩ := hrel
    have rc1 := (HR1.out.below HB.out HR1.out.lt).cell
    have rc2 := (HR2.out.below HB.out HR2.out.lt).cell
    by_cases hi : i < m
    · have hil : (i : Int) < (m : Int) := by omega
      obtain ⟨s, e⟩ := get_lt (l := ns) (i := i) (by rw [← HM.out]; exact hi)
      obtain ⟨s', e'⟩ := get_lt (l := ms) (i := i) (by rw [← HM'.out]; exact hi)
      obtain ⟨g, o, hA, _, hg, z0, _⟩ := (HNA.out.below HB.out).nth e
      obtain ⟨g', o', hA', _, hg', z0', _⟩ := (HNB.out.below HB.out).nth e'
      have HE := Lib.hid e
      have HE' := Lib.hid e'
      obtain ⟨j, hj⟩ : ∃ j, j = i + 1 := ⟨_, rfl⟩
      subst hA hA'
      clear e e'
      by_cases hs : s = s'
      · have hq : (s.toList == s'.toList) = true := by rw [beq_ba]; exact decide_eq_true hs
        have HQ2 := Lib.hid (take_same HQ.out HE.out HE'.out hs)
        clear hs
        go_wp2_with fail
        go_quiet (fail)
        go_wp2_with fail
        go_roundg (m - j)
        case measure => omega
        case rel => exact ⟨j, by rw [hj]; go_num, by omega, by omega, by rw [hj]; exact HQ2.out, below_drewN HB.out _⟩
      · have hq : (s.toList == s'.toList) = false := by rw [beq_ba]; exact decide_eq_false hs
        have HQ2 := Lib.hid (ne_at HE.out HE'.out hs)
        clear hs
        go_wp2_with fail
        go_quiet (fail)
        go_wp2_with fail
        (first | go_ret | go_ret2)
        exact ⟨by rw [HRa.out, decide_eq_false HQ2.out]; rfl, below_drewN (HB0.out.trans (HB.out.mono HB0.out.size)) _⟩
    · have hil : ¬ (i : Int) < (m : Int) := by omega
      obtain rfl : i = m := by omega
      have HR : Hid (r = sameL ps qs) := by unfold Hid; rw [HRa.out, decide_eq_true (eq_of_take HQ.out HM.out HM'.out), Bool.true_and]
      have HTx := Lib.hid (HT.out.below HB.out)
      have HTy := Lib.hid (HT'.out.below HB.out)
      have HRx := Lib.hid (HR1.out.below HB.out HR1.out.lt)
      have HRy := Lib.hid (HR2.out.below HB.out HR2.out.lt)
      have HBx := Lib.hid (HB0.out.trans (HB.out.mono HB0.out.size))
      clear hi HQ HB HNA HNB
      go_wp2_with fail
      clear rc1 rc2
      obtain ⟨V, rfl⟩ : ∃ V, V = wr := ⟨_, rfl⟩
      go_loopg [6] (n + 1) (fun kx s6 wr => ∃ j : Nat, s6 = .int .i64 j ∧ n - j ≤ kx ∧ j ≤ n ∧ Hid (sameL (ps.take j) (qs.take j) = true) ∧ Hid (Below V.heap.size V wr))
      case atStart => exact ⟨0, rfl, by omega, by omega, by simp [Hid, sameL], Below.refl _ _⟩
      case round =>
        obtain ⟨j, rfl, hkx2, hjn, HQ, HB⟩ := hrel
        have X1 := Lib.hid (HRx.out.below HB.out HRx.out.lt)
        have X2 := Lib.hid (HRy.out.below HB.out HRy.out.lt)
        have rc1 := X1.out.cell
        have rc2 := X2.out.cell
        by_cases hj : j < n
        · have hjl : (j : Int) < (n : Int) := by omega
          obtain ⟨s, e⟩ := get_lt (l := ps) (i := j) (by rw [← HL.out]; exact hj)
          obtain ⟨s', e'⟩ := get_lt (l := qs) (i := j) (by rw [← HL'.out]; exact hj)
          obtain ⟨g, o, An2, cn2, A2, c2, hA, hP, hg, hti, a0, a1, a2, a3, a4⟩ := (HTx.out.below HB.out).nth e
          obtain ⟨g', o', Bn2, dn2, B2, d2, hA', hP', hg', hti', v0, v1, v2, v3, v4⟩ := (HTy.out.below HB.out).nth e'
          have CC : Hid (∀ w', Below wr.heap.size wr w' → Calls Tryd.prog 16 #[vv s An2 cn2 A2 c2, vv s' Bn2 dn2 B2 d2] w' fun e w'' => e = .returned (.bool (s.same s')) ∧ Below w'.heap.size w' w'') := fun w' hb =>
            HI.out s (List.mem_of_getElem? e) s' (List.mem_of_getElem? e') w' P P' An2 cn2 A2 c2 Bn2 dn2 B2 d2 (hti.below hb) (hti'.below hb)
          have zra := fun d os => cell_regrown (X1.out.cell 4) d os
          have zrb := fun d os => cell_regrown (X2.out.cell 4) d os
          have z0 := fun d os => cell_regrown a0 d os
          have z1 := fun d os => cell_regrown a1 d os
          have z2 := fun d os => cell_regrown a2 d os
          have z3 := fun d os => cell_regrown a3 d os
          have z4 := fun d os => cell_regrown a4 d os
          have u0 := fun d os => cell_regrown v0 d os
          have u1 := fun d os => cell_regrown v1 d os
          have u2 := fun d os => cell_regrown v2 d os
          have u3 := fun d os => cell_regrown v3 d os
          have u4 := fun d os => cell_regrown v4 d os
          obtain ⟨b, hb⟩ : ∃ b, b = s.same s' := ⟨_, rfl⟩
          have HBB := Lib.hid hb
          rw [← hb] at CC
          have HE := Lib.hid e
          have HE' := Lib.hid e'
          subst hA hA'
          obtain ⟨x, hx⟩ : ∃ x, x = j + 1 := ⟨_, rfl⟩
          have hbd : Hid (∀ d os, Below wr.heap.size wr (Go.Sort.grow (redrawn wr d) os)) := fun d os => below_regrown wr d os
          obtain ⟨k1, n1, p1⟩ := s
          obtain ⟨k2, n2, p2⟩ := s'
          simp only [hd_mk, names_mk, parts_mk] at z0 z1 z2 z3 z4 u0 u1 u2 u3 u4 CC
          clear e e' hti hti' hb a0 a1 a2 a3 a4 v0 v1 v2 v3 v4 hP hP' hg hg'
          go_wp2_with fail
          refine wp_region_quiet_below (by kernel_rfl) (by kernel_rfl) ?_
          repeat (go_big_quiet_step (first
            | (go_at_call 16; exact Calls.regrown_of (CC.out _ (hbd.out _ _)))))
          refine wpQuiet_nil ?_
          intro _ hw'
          obtain ⟨⟨dq, osq⟩, hw''⟩ := hw'
          subst hw''
          have HX := Lib.hid (HB.out.trans ((below_regrown wr dq osq).mono HB.out.size))
          generalize Go.Sort.grow (redrawn wr dq) osq = WX at *
          clear CC hbd zra zrb z0 z1 z2 z3 z4 u0 u1 u2 u3 u4 rc1 rc2
          cases b
          · have HQ2 := Lib.hid (zipB_no (q := Vl.same) HE.out HE'.out HBB.out.symm)
            go_wp2_with fail
            (first | go_ret | go_ret2)
            exact ⟨by rw [HR.out, ← zipB_same, HQ2.out]; rfl, HBx.out.trans (HX.out.mono HBx.out.size)⟩
          · have HQ2 : Hid (sameL (ps.take (j + 1)) (qs.take (j + 1)) = true) := by
              have := HQ.out
              rw [← zipB_same] at this
              unfold Hid
              rw [← zipB_same]
              exact zipB_take this HE.out HE'.out HBB.out.symm
            go_wp2_with fail
            go_roundg (n - x)
            case measure => omega
            case rel => exact ⟨x, by rw [hx]; go_num, by omega, by omega, by rw [hx]; exact HQ2.out, HX.out⟩
        · have hjl : ¬ (j : Int) < (n : Int) := by omega
          obtain rfl : j = n := by omega
          have HF : Hid (r = true) := by
            unfold Hid
            have := HQ.out
            rw [← zipB_same] at this
            rw [HR.out, ← zipB_same]
            exact zipB_all this HL.out HL'.out
          clear hj
          go_wp2_with fail
          (first | go_ret | go_ret2)
          exact ⟨by rw [HF.out]; rfl, HBx.out.trans (HB.out.mono HBx.out.size)⟩

theorem rsame_any : ∀ t : Vl, t.cnt ≤ 1000001 → ∀ t' : Vl, t'.cnt ≤ 1000001 → ∀ (w : World) (P P' : Nat → Prop) (An : Option Addr) (cn : Nat) (A : Option Addr) (c : Nat) (Bn : Option Addr) (dn : Nat) (B : Option Addr) (d : Nat), VI w P t An cn A c → VI w P' t' Bn dn B d →
      Calls Tryd.prog 16 #[vv t An cn A c, vv t' Bn dn B d] w fun e w' => e = .returned (.bool (t.same t')) ∧ Below w.heap.size w w' := by
  refine Vl.ind fun k ns ps ih hc t' hc' w P P' An cn A c Bn dn B d h h' => ?_
  obtain ⟨k', ms, qs⟩ := t'
  rw [Vl.cnt] at hc hc'
  have e1 := cntL_len ps
  have e2 := cntL_len qs
  exact rsame_step ps qs (by omega) (by omega) (fun a ha b hb => ih a ha (by have := cnt_mem ha; omega) b (by have := cnt_mem hb; omega)) w P P' k k' ns ms (by omega) (by omega) An cn A c Bn dn B d (VI_iff.1 h).1 (VI_iff.1 h').1 (VI_iff.1 h).2 (VI_iff.1 h').2 _ (by rw [Vl.same])
end Vm
end Go.Proofs.YtbjlhdjcdinmhaaDoor
