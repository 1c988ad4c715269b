/- Contracts: whether two types are the same: the document's way, the program's; names. -/
import Derived.Test.YtifkjngclkklfaaGreatDoorMGg
import Derived.Lib.QuietBelow
import Derived.Test.YtifkjngclkklfaaGreatDoorMGf
namespace Go.Proofs.YtifkjngclkklfaaGreatDoor
open Go.RowKit
namespace Tm
theorem take_same {α : Type} {l m : List α} {i : Nat} {a b : α} (h : l.take i = m.take i) (e : l[i]? = some a) (e' : m[i]? = some b) (k : a = b) : l.take (i + 1) = m.take (i + 1) := by
  rw [List.take_add_one, List.take_add_one, h, e, e', k]
theorem get_lt {α : Type} {l : List α} {i : Nat} (h : i < l.length) : ∃ t, l[i]? = some t := ⟨l[i], List.getElem?_eq_getElem h⟩
theorem ne_at {α : Type} {l m : List α} {i : Nat} {a b : α} (e : l[i]? = some a) (e' : m[i]? = some b) (k : a ≠ b) : l ≠ m := fun h => by
  rw [h, e'] at e
  injection e with e
  exact k e.symm
theorem eq_of_take {α : Type} {l m : List α} {n : Nat} (h : l.take n = m.take n) (h1 : n = l.length) (h2 : n = m.length) : l = m := by
  rw [List.take_of_length_le (by omega), List.take_of_length_le (by omega)] at h
  exact h

set_option maxHeartbeats 4000000 in
set_option maxRecDepth 100000 in
theorem eqs_any (w : World) (ns ms : List ByteArray) (P P' : Nat → Prop) (A B : Option Addr) (c d : Nat) (h : NV w P ns A c) (h' : NV w P' ms B d) (hl : ns.length ≤ 1000001) (hl' : ms.length ≤ 1000001) :
    Calls Tryz.prog 43 #[.slice A ns.length c, .slice B ms.length d] w fun e w' => e = .returned (.bool (decide (ns = ms))) ∧ Below w.heap.size w w' := by
  have HK := Lib.hid h
  have HK' := Lib.hid h'
  obtain ⟨n, hn⟩ : ∃ n, n = ns.length := ⟨_, rfl⟩
  obtain ⟨m, hm⟩ : ∃ m, m = ms.length := ⟨_, rfl⟩
  have HN := Lib.hid hn
  have HM := Lib.hid hm
  have hn1 : n ≤ 1000001 := by omega
  have hm1 : m ≤ 1000001 := by omega
  rw [← hn, ← hm]
  clear h h' hn hm hl hl'
  by_cases hnm : n = m
  · subst hnm
    go_enter Tryz.func43, Tryz.ntmps43
    go_wp2_with fail
    go_loopg [13] (n + 1) (fun kx s13 wr => ∃ i : Nat, s13 = .int .i64 i ∧ n - i ≤ kx ∧ i ≤ n ∧ Hid (ns.take i = ms.take i) ∧ Hid (Below w.heap.size w wr))
    case atStart => exact ⟨0, rfl, by omega, by omega, by simp [Hid], Below.refl _ _⟩
    case round =>
      obtain ⟨i, rfl, hkx, hin, HQ, HB⟩ := hrel
      by_cases hi : i < n
      · have hil : (i : Int) < (n : Int) := by omega
        obtain ⟨s, e⟩ := get_lt (l := ns) (i := i) (by rw [← HN.out]; exact hi)
        obtain ⟨s', e'⟩ := get_lt (l := ms) (i := i) (by rw [← HM.out]; exact hi)
        obtain ⟨g, o, hA, _, hg, z0, _⟩ := (HK.out.below HB.out).nth e
        obtain ⟨g', o', hA', _, hg', z0', _⟩ := (HK'.out.below HB.out).nth e'
        have HE := Lib.hid e
        have HE' := Lib.hid e'
        obtain ⟨j, hj⟩ : ∃ j, j = i + 1 := ⟨_, rfl⟩
        subst hA hA'
        clear e e'
        by_cases hs : s = s'
        · have hq : (s.toList == s'.toList) = true := by rw [beq_ba]; exact decide_eq_true hs
          have HQ2 := Lib.hid (take_same HQ.out HE.out HE'.out hs)
          clear hs
          go_wp2_with fail
          go_quiet (fail)
          go_wp2_with fail
          go_roundg (n - j)
          case measure => omega
          case rel => exact ⟨j, by rw [hj]; go_num, by omega, by omega, by rw [hj]; exact HQ2.out, below_drewN HB.out _⟩
        · have hq : (s.toList == s'.toList) = false := by rw [beq_ba]; exact decide_eq_false hs
          have HQ2 := Lib.hid (ne_at HE.out HE'.out hs)
          clear hs
          go_wp2_with fail
          go_quiet (fail)
          go_wp2_with fail
          (first | go_ret | go_ret2)
          exact ⟨by rw [decide_eq_false HQ2.out]; rfl, below_drewN HB.out _⟩
      · have hil : ¬ (i : Int) < (n : Int) := by omega
        have h1 : Hid (ns.take i = ms.take i) := HQ
        obtain rfl : i = n := by omega
        go_wp2_with fail
        (first | go_ret | go_ret2)
        exact ⟨by rw [decide_eq_true (eq_of_take HQ.out HN.out HM.out)]; rfl, HB.out⟩
  · have hne : ((n : Int) != (m : Int)) = true := by rw [bne_iff_ne]; omega
    have hne2 : ((n : Int) == (m : Int)) = false := by rw [beq_eq_false_iff_ne]; omega
    have HF : Hid (ns ≠ ms) := fun e => hnm (by rw [HN.out, HM.out, e])
    clear hnm
    go_enter Tryz.func43, Tryz.ntmps43
    go_wp2_with fail
    (first | go_ret | go_ret2)
    exact ⟨by rw [decide_eq_false HF.out]; rfl, Below.refl _ _⟩

/-- A function value that says of pairs of types whether q. -/
def Ask2V (w : World) (v : Value) (ps qs : List Ty) (q : Ty → Ty → Bool) : Prop :=
  ∃ F caps, v = .func (.func F) #[] caps ∧ (∀ u v w, (callFunc F (#[u, v] ++ caps)).run Tryz.prog w = .ok (.enter F (#[u, v] ++ caps)) w) ∧
    ∀ a ∈ ps, ∀ b ∈ qs, ∀ (w' : World) (P P' : Nat → Prop) (An : Option Addr) (cn : Nat) (A : Option Addr) (c : Nat) (Bn : Option Addr) (dn : Nat) (B : Option Addr) (d : Nat), Below w.heap.size w w' → TI w' P a An cn A c → TI w' P' b Bn dn B d →
      Calls Tryz.prog F (#[tv a An cn A c, tv b Bn dn B d] ++ caps) w' fun e w2 => e = .returned (.bool (q a b)) ∧ Below w'.heap.size w' w2
/-- Whether two lists of types go together, one by one. -/
def zipB (q : Ty → Ty → Bool) : List Ty → List Ty → Bool
  | [], [] => true
  | a :: l, b :: m => q a b && zipB q l m
  | _, _ => false
theorem zipB_len {q : Ty → Ty → Bool} : ∀ {l m : List Ty}, l.length ≠ m.length → zipB q l m = false
  | [], [], h => absurd rfl h
  | [], _ :: _, _ => rfl
  | _ :: _, [], _ => rfl
  | a :: l, b :: m, h => by rw [zipB, zipB_len (by simpa using h), Bool.and_false]
theorem zipB_no {q : Ty → Ty → Bool} : ∀ {l m : List Ty} {i : Nat} {a b : Ty}, l[i]? = some a → m[i]? = some b → q a b = false → zipB q l m = false
  | [], _, i, a, b, h, _, _ => by simp at h
  | _ :: _, [], i, a, b, _, h, _ => by simp at h
  | x :: l, y :: m, 0, a, b, h, h', k => by
    obtain rfl : x = a := by simpa using h
    obtain rfl : y = b := by simpa using h'
    rw [zipB, k, Bool.false_and]
  | x :: l, y :: m, i + 1, a, b, h, h', k => by rw [zipB, zipB_no (l := l) (m := m) (i := i) (by simpa using h) (by simpa using h') k, Bool.and_false]
theorem zipB_take {q : Ty → Ty → Bool} : ∀ {l m : List Ty} {i : Nat} {a b : Ty}, zipB q (l.take i) (m.take i) = true → l[i]? = some a → m[i]? = some b → q a b = true → zipB q (l.take (i + 1)) (m.take (i + 1)) = true
  | [], _, i, a, b, _, h, _, _ => by simp at h
  | _ :: _, [], i, a, b, _, _, h, _ => by simp at h
  | x :: l, y :: m, 0, a, b, _, h, h', k => by
    obtain rfl : x = a := by simpa using h
    obtain rfl : y = b := by simpa using h'
    simp [zipB, k]
  | x :: l, y :: m, i + 1, a, b, hz, h, h', k => by
    rw [List.take_succ_cons, List.take_succ_cons, zipB, Bool.and_eq_true] at hz
    rw [List.take_succ_cons, List.take_succ_cons, zipB, Bool.and_eq_true]
    exact ⟨hz.1, zipB_take hz.2 (by simpa using h) (by simpa using h') k⟩
theorem zipB_all {q : Ty → Ty → Bool} {l m : List Ty} {n : Nat} (h : zipB q (l.take n) (m.take n) = true) (h1 : n = l.length) (h2 : n = m.length) : zipB q l m = true := by
  rw [List.take_of_length_le (by omega), List.take_of_length_le (by omega)] at h
  exact h

set_option maxHeartbeats 4000000 in
set_option maxRecDepth 100000 in
theorem equalf_any (w : World) (v : Value) (ps qs : List Ty) (q : Ty → Ty → Bool) (P P' : Nat → Prop) (A B : Option Addr) (c d : Nat) (hv : Ask2V w v ps qs q) (h : TV w P ps A c) (h' : TV w P' qs B d) (hl : ps.length ≤ 1000001) (hl' : qs.length ≤ 1000001) :
    Calls Tryz.prog 44 #[.slice A ps.length c, .slice B qs.length d, v] w fun e w' => e = .returned (.bool (zipB q ps qs)) ∧ Below w.heap.size w w' := by
  obtain ⟨F, caps, rfl, eF, h3⟩ := hv
  have HK := Lib.hid h
  have HK' := Lib.hid h'
  have HI := Lib.hid h3
  obtain ⟨n, hn⟩ : ∃ n, n = ps.length := ⟨_, rfl⟩
  obtain ⟨m, hm⟩ : ∃ m, m = qs.length := ⟨_, rfl⟩
  have HN := Lib.hid hn
  have HM := Lib.hid hm
  have hn1 : n ≤ 1000001 := by omega
  have hm1 : m ≤ 1000001 := by omega
  rw [← hn, ← hm]
  clear h h' h3 hn hm hl hl'
  by_cases hnm : n = m
  · subst hnm
    go_enter Tryz.func44, Tryz.ntmps44
    go_wp2_with fail
    go_loopg [17] (n + 1) (fun kx s17 wr => ∃ i : Nat, s17 = .int .i64 i ∧ n - i ≤ kx ∧ i ≤ n ∧ Hid (zipB q (ps.take i) (qs.take i) = true) ∧ Hid (Below w.heap.size w wr))
    case atStart => exact ⟨0, rfl, by omega, by omega, by simp [Hid, zipB], Below.refl _ _⟩
    case round =>
      obtain ⟨i, rfl, hkx, hin, HQ, HB⟩ := hrel
      by_cases hi : i < n
      · have hil : (i : Int) < (n : Int) := by omega
        obtain ⟨s, e⟩ := get_lt (l := ps) (i := i) (by rw [← HN.out]; exact hi)
        obtain ⟨s', e'⟩ := get_lt (l := qs) (i := i) (by rw [← HM.out]; exact hi)
        obtain ⟨g, o, An2, cn2, A2, c2, hA, hP, hg, hti, z0, z1, z2⟩ := (HK.out.below HB.out).nth e
        have q1 : Below wr.heap.size wr (wr.alloc (.cells #[.int .i64 s.kind, .slice An2 s.names.length cn2, .slice A2 s.parts.length c2] 25)) := bel1 wr _
        obtain ⟨g', o', Bn2, dn2, B2, d2, hA', hP', hg', hti', u0, u1, u2⟩ := ((HK'.out.below HB.out).below q1).nth e'
        have HE := Lib.hid e
        have HE' := Lib.hid e'
        have q2 : Below (wr.alloc (.cells #[.int .i64 s.kind, .slice An2 s.names.length cn2, .slice A2 s.parts.length c2] 25)).heap.size (wr.alloc (.cells #[.int .i64 s.kind, .slice An2 s.names.length cn2, .slice A2 s.parts.length c2] 25)) _ := bel1 _ (.cells #[.int .i64 s'.kind, .slice Bn2 s'.names.length dn2, .slice B2 s'.parts.length d2] 25)
        have CC := Lib.hid (HI.out s (List.mem_of_getElem? e) s' (List.mem_of_getElem? e') _ P P' An2 cn2 A2 c2 Bn2 dn2 B2 d2 (HB.out.trans ((q1.trans (q2.mono q1.size)).mono HB.out.size)) ((hti.below q1).below q2) (hti'.below q2))
        have HB2 := Lib.hid (HB.out.trans ((q1.trans (q2.mono q1.size)).mono HB.out.size))
        obtain ⟨j, hj⟩ : ∃ j, j = i + 1 := ⟨_, rfl⟩
        have r1 := ((RowB.new wr 25 #[.int .i64 s.kind, .slice An2 s.names.length cn2, .slice A2 s.parts.length c2]).alloc (.cells #[.int .i64 s'.kind, .slice Bn2 s'.names.length dn2, .slice B2 s'.parts.length d2] 25)).cell
        have r2 := (RowB.new (wr.alloc (.cells #[.int .i64 s.kind, .slice An2 s.names.length cn2, .slice A2 s.parts.length c2] 25)) 25 #[.int .i64 s'.kind, .slice Bn2 s'.names.length dn2, .slice B2 s'.parts.length d2]).cell
        have eV := eF (tv s An2 cn2 A2 c2) (tv s' Bn2 dn2 B2 d2)
        obtain ⟨b, hb⟩ : ∃ b, b = q s s' := ⟨_, rfl⟩
        have HBB := Lib.hid hb
        rw [← hb] at CC
        subst hA hA'
        obtain ⟨k1, n1, p1⟩ := s
        obtain ⟨k2, n2, p2⟩ := s'
        simp only [kind_mk, names_mk, parts_mk] at z0 z1 z2 u0 u1 u2 CC r1 r2 eV HB2
        clear e e' hti hti' q1 q2 hb
        go_wp2_with fail
        refine CC.out.mono ?_
        rintro e w2 ⟨rfl, h2⟩
        have HB3 : Hid (Below w.heap.size w w2) := HB2.out.trans (h2.mono HB2.out.size)
        clear h2 CC r1 r2 z0 z1 z2 u0 u1 u2 HB2
        cases b
        · have HQ2 := Lib.hid (zipB_no HE.out HE'.out HBB.out.symm)
          go_wp2_with fail
          (first | go_ret | go_ret2)
          exact ⟨by rw [HQ2.out]; rfl, HB3.out⟩
        · have HQ2 := Lib.hid (zipB_take HQ.out HE.out HE'.out HBB.out.symm)
          go_wp2_with fail
          go_roundg (n - j)
          case measure => omega
          case rel => exact ⟨j, by rw [hj]; go_num, by omega, by omega, by rw [hj]; exact HQ2.out, HB3.out⟩
      · have hil : ¬ (i : Int) < (n : Int) := by omega
        obtain rfl : i = n := by omega
        go_wp2_with fail
        (first | go_ret | go_ret2)
        exact ⟨by rw [zipB_all HQ.out HN.out HM.out]; rfl, HB.out⟩
  · have hne : ((n : Int) != (m : Int)) = true := by rw [bne_iff_ne]; omega
    have hne2 : ((n : Int) == (m : Int)) = false := by rw [beq_eq_false_iff_ne]; omega
    have HF : Hid (zipB q ps qs = false) := zipB_len (by rw [← HN.out, ← HM.out]; exact hnm)
    clear hnm
    go_enter Tryz.func44, Tryz.ntmps44
    go_wp2_with fail
    (first | go_ret | go_ret2)
    exact ⟨by rw [HF.out]; rfl, Below.refl _ _⟩
end Tm
end Go.Proofs.YtifkjngclkklfaaGreatDoor
/- Contracts: whether two types are the same. -/
namespace Go.Proofs.YtifkjngclkklfaaGreatDoor
open Go.RowKit
namespace Tm
theorem zipB_same : ∀ l m : List Ty, zipB Ty.same l m = sameL l m
  | [], [] => by simp [zipB, sameL]
  | [], _ :: _ => by simp [zipB, sameL]
  | _ :: _, [] => by simp [zipB, sameL]
  | a :: l, b :: m => by rw [zipB, sameL, zipB_same l m]
abbrev tarr (k : Int) (An : Option Addr) (m cn : Nat) (A : Option Addr) (n c : Nat) : Array Value := #[.int .i64 k, .slice An m cn, .slice A n c]

set_option maxHeartbeats 4000000 in
set_option maxRecDepth 100000 in
theorem psame_step (ps : List Ty) (qs : List Ty) (hl : ps.length ≤ 1000001) (hl' : qs.length ≤ 1000001)
    (IH : ∀ a ∈ ps, ∀ b ∈ qs, ∀ (w : World) (P P' : Nat → Prop) (An : Option Addr) (cn : Nat) (A : Option Addr) (c : Nat) (Bn : Option Addr) (dn : Nat) (B : Option Addr) (d : Nat), TI w P a An cn A c → TI w P' b Bn dn B d →
      Calls Tryz.prog 20 #[tv a An cn A c, tv b Bn dn B d] w fun e w' => e = .returned (.bool (a.same b)) ∧ Below w.heap.size w w')
    (w : World) (P P' : Nat → Prop) (k k' : Int) (ns ms : List ByteArray) (hn : ns.length ≤ 1000001) (hn' : ms.length ≤ 1000001) (An : Option Addr) (cn : Nat) (A : Option Addr) (c : Nat) (Bn : Option Addr) (dn : Nat) (B : Option Addr) (d : Nat) (hN : NV w P ns An cn) (hN' : NV w P' ms Bn dn) (h : TV w P ps A c) (h' : TV w P' qs B d) (r : Bool) (hr : r = (decide (k = k') && decide (ns = ms) && sameL ps qs)) :
    Calls Tryz.prog 20 #[.agg #[.int .i64 k, .slice An ns.length cn, .slice A ps.length c], .agg #[.int .i64 k', .slice Bn ms.length dn, .slice B qs.length d]] w fun e w' => e = .returned (.bool r) ∧ Below w.heap.size w w' := by
  have b1 : Below w.heap.size w (w.alloc (.cells (tarr k An ns.length cn A ps.length c) 25)) := bel1 w _
  have b2 : Below (w.alloc (.cells (tarr k An ns.length cn A ps.length c) 25)).heap.size (w.alloc (.cells (tarr k An ns.length cn A ps.length c) 25)) _ := bel1 _ (.cells (tarr k' Bn ms.length dn B qs.length d) 25)
  have HB0 := Lib.hid (b1.trans (b2.mono b1.size))
  have r1 := ((RowB.new w 25 (tarr k An ns.length cn A ps.length c)).alloc (.cells (tarr k' Bn ms.length dn B qs.length d) 25))
  have r2 : RowB ((w.alloc (.cells (tarr k An ns.length cn A ps.length c) 25)).alloc (.cells (tarr k' Bn ms.length dn B qs.length d) 25)) (w.heap.size + 1) 25 (tarr k' Bn ms.length dn B qs.length d) := by
    have := (RowB.new (w.alloc (.cells (tarr k An ns.length cn A ps.length c) 25)) 25 (tarr k' Bn ms.length dn B qs.length d))
    simpa using this
  have C1 := Lib.hid (eqs_any _ ns ms P P' An Bn cn dn ((hN.below b1).below b2) ((hN'.below b1).below b2) hn hn')
  have HT := Lib.hid ((h.below b1).below b2)
  have HT' := Lib.hid ((h'.below b1).below b2)
  have HR1 := Lib.hid r1
  have HR2 := Lib.hid r2
  have rc1 := r1.cell
  have rc2 := r2.cell
  have HI := Lib.hid IH
  have HR := Lib.hid hr
  clear b1 b2 hN hN' h h' IH r1 r2 hr
  by_cases hk : k = k'
  · have hk1 : (k == k') = true := by rw [beq_iff_eq]; exact hk
    obtain ⟨b, hb⟩ : ∃ b, b = decide (ns = ms) := ⟨_, rfl⟩
    have HBB := Lib.hid hb
    rw [← hb] at C1
    have HR : Hid (r = (b && sameL ps qs)) := by unfold Hid; rw [HR.out, decide_eq_true hk, ← HBB.out, Bool.true_and]
    clear hk hb HBB
    go_enter Tryz.func20, Tryz.ntmps20
    go_wp2_with fail
    refine C1.out.mono ?_
    rintro e w1 ⟨rfl, h1⟩
    have HB1 := Lib.hid (HB0.out.trans (h1.mono HB0.out.size))
    cases b
    · clear h1 C1 rc1 rc2
      go_wp2_with fail
      (first | go_ret | go_ret2)
      exact ⟨by rw [HR.out]; rfl, HB1.out⟩
    · have C2 := Lib.hid (equalf_any w1 (.func (.func 20) #[] #[]) ps qs Ty.same P P' A B c d ⟨20, #[], rfl, fun _ _ _ => rfl, fun a ha b hb w' P P' An cn A c Bn dn B d _ u u' => HI.out a ha b hb w' P P' An cn A c Bn dn B d u u'⟩ (HT.out.below h1) (HT'.out.below h1) hl hl')
      have HR1' := HR1.out.below h1 HR1.out.lt
      have HR2' := HR2.out.below h1 HR2.out.lt
      have rd1 := HR1'.cell
      have rd2 := HR2'.cell
      rw [zipB_same] at C2
      have HR : Hid (r = sameL ps qs) := by unfold Hid; rw [HR.out, Bool.true_and]
      generalize sameL ps qs = b2 at C2 HR
      clear h1 C1 rc1 rc2 HR1' HR2'
      go_wp2_with fail
      refine C2.out.mono ?_
      rintro e w2 ⟨rfl, h2⟩
      have HB2 := Lib.hid (HB1.out.trans (h2.mono HB1.out.size))
      clear h2 C2 rd1 rd2
      go_wp2_with fail
      (first | go_ret | go_ret2)
      exact ⟨by rw [HR.out]; rfl, HB2.out⟩
  · have hk1 : (k == k') = false := by rw [beq_eq_false_iff_ne]; exact hk
    have HR : Hid (r = false) := by unfold Hid; rw [HR.out, decide_eq_false hk, Bool.false_and, Bool.false_and]
    clear hk
    go_enter Tryz.func20, Tryz.ntmps20
    go_wp2_with fail
    (first | go_ret | go_ret2)
    exact ⟨by rw [HR.out]; rfl, HB0.out⟩
theorem psame_any : ∀ t : Ty, t.cnt ≤ 1000001 → ∀ t' : Ty, t'.cnt ≤ 1000001 → ∀ (w : World) (P P' : Nat → Prop) (An : Option Addr) (cn : Nat) (A : Option Addr) (c : Nat) (Bn : Option Addr) (dn : Nat) (B : Option Addr) (d : Nat), TI w P t An cn A c → TI w P' t' Bn dn B d →
      Calls Tryz.prog 20 #[tv t An cn A c, tv t' Bn dn B d] w fun e w' => e = .returned (.bool (t.same t')) ∧ Below w.heap.size w w' := by
  refine Ty.ind fun k ns ps ih hc t' hc' w P P' An cn A c Bn dn B d h h' => ?_
  obtain ⟨k', ms, qs⟩ := t'
  rw [Ty.cnt] at hc hc'
  have e1 := cntL_len ps
  have e2 := cntL_len qs
  exact psame_step ps qs (by omega) (by omega) (fun a ha b hb => ih a ha (by have := cnt_mem ha; omega) b (by have := cnt_mem hb; omega)) w P P' k k' ns ms (by omega) (by omega) An cn A c Bn dn B d (TI_iff.1 h).1 (TI_iff.1 h').1 (TI_iff.1 h).2 (TI_iff.1 h').2 _ (by rw [Ty.same])

set_option maxHeartbeats 8000000 in
set_option maxRecDepth 100000 in
theorem rsame_step (ps : List Ty) (qs : List Ty) (hl : ps.length ≤ 1000001) (hl' : qs.length ≤ 1000001)
    (IH : ∀ a ∈ ps, ∀ b ∈ qs, ∀ (w : World) (P P' : Nat → Prop) (An : Option Addr) (cn : Nat) (A : Option Addr) (c : Nat) (Bn : Option Addr) (dn : Nat) (B : Option Addr) (d : Nat), TI w P a An cn A c → TI w P' b Bn dn B d →
      Calls Tryz.prog 21 #[tv a An cn A c, tv b Bn dn B d] w fun e w' => e = .returned (.bool (a.same b)) ∧ Below w.heap.size w w')
    (w : World) (P P' : Nat → Prop) (k k' : Int) (ns ms : List ByteArray) (hn : ns.length ≤ 1000001) (hn' : ms.length ≤ 1000001) (An : Option Addr) (cn : Nat) (A : Option Addr) (c : Nat) (Bn : Option Addr) (dn : Nat) (B : Option Addr) (d : Nat) (hN : NV w P ns An cn) (hN' : NV w P' ms Bn dn) (h : TV w P ps A c) (h' : TV w P' qs B d) (r : Bool) (hr : r = (decide (k = k') && decide (ns = ms) && sameL ps qs)) :
    Calls Tryz.prog 21 #[.agg #[.int .i64 k, .slice An ns.length cn, .slice A ps.length c], .agg #[.int .i64 k', .slice Bn ms.length dn, .slice B qs.length d]] w fun e w' => e = .returned (.bool r) ∧ Below w.heap.size w w' := by
  obtain ⟨m, hm⟩ : ∃ m, m = ns.length := ⟨_, rfl⟩
  obtain ⟨m', hm'⟩ : ∃ m', m' = ms.length := ⟨_, rfl⟩
  obtain ⟨n, hnn⟩ : ∃ n, n = ps.length := ⟨_, rfl⟩
  obtain ⟨n', hnn'⟩ : ∃ n', n' = qs.length := ⟨_, rfl⟩
  rw [← hm, ← hm', ← hnn, ← hnn']
  have b1 : Below w.heap.size w (w.alloc (.cells (tarr k An m cn A n c) 25)) := bel1 w _
  have b2 : Below (w.alloc (.cells (tarr k An m cn A n c) 25)).heap.size (w.alloc (.cells (tarr k An m cn A n c) 25)) _ := bel1 _ (.cells (tarr k' Bn m' dn B n' d) 25)
  have HB0 := Lib.hid (b1.trans (b2.mono b1.size))
  have r1 := ((RowB.new w 25 (tarr k An m cn A n c)).alloc (.cells (tarr k' Bn m' dn B n' d) 25))
  have r2 : RowB ((w.alloc (.cells (tarr k An m cn A n c) 25)).alloc (.cells (tarr k' Bn m' dn B n' d) 25)) (w.heap.size + 1) 25 (tarr k' Bn m' dn B n' d) := by
    have := (RowB.new (w.alloc (.cells (tarr k An m cn A n c) 25)) 25 (tarr k' Bn m' dn B n' d))
    simpa using this
  have HNA := Lib.hid ((hN.below b1).below b2)
  have HNB := Lib.hid ((hN'.below b1).below b2)
  have HT := Lib.hid ((h.below b1).below b2)
  have HT' := Lib.hid ((h'.below b1).below b2)
  have HR1 := Lib.hid r1
  have HR2 := Lib.hid r2
  have rc1 := r1.cell
  have rc2 := r2.cell
  have HI := Lib.hid IH
  have HR := Lib.hid hr
  have hm1 : m ≤ 1000001 := by omega
  have hm2 : m' ≤ 1000001 := by omega
  have hn1 : n ≤ 1000001 := by omega
  have hn2 : n' ≤ 1000001 := by omega
  have HM := Lib.hid hm
  have HM' := Lib.hid hm'
  have HL := Lib.hid hnn
  have HL' := Lib.hid hnn'
  clear b1 b2 hN hN' h h' IH r1 r2 hr hm hm' hnn hnn' hn hn' hl hl'
  by_cases hk : k = k' ∧ m = m' ∧ n = n'
  case neg =>
    have HF : Hid (r = false) := by
      unfold Hid
      rw [HR.out]
      by_cases h1 : k = k'
      · by_cases h2 : m = m'
        · have h3 : ¬ sameL ps qs = true := fun e => hk ⟨h1, h2, by rw [HL.out, HL'.out, sameL_len e]⟩
          rw [Bool.eq_false_iff.2 h3, Bool.and_false]
        · rw [decide_eq_false (p := ns = ms) (fun e => h2 (by rw [HM.out, HM'.out, e])), Bool.and_false, Bool.false_and]
      · rw [decide_eq_false h1, Bool.false_and, Bool.false_and]
    have key : ∀ (x y z : Bool), (k != k') = x → ((m : Int) != (m' : Int)) = y → ((n : Int) != (n' : Int)) = z → (x || y || z) = true → Calls Tryz.prog 21 #[.agg #[.int .i64 k, .slice An m cn, .slice A n c], .agg #[.int .i64 k', .slice Bn m' dn, .slice B n' d]] w fun e w' => e = .returned (.bool r) ∧ Below w.heap.size w w' := by
      intro x y z hx hy hz hxyz
      clear hk HI HR
      cases x
      · cases y
        · cases z
          · cases hxyz
          · clear hxyz
            go_enter Tryz.func21, Tryz.ntmps21
            go_wp2_with fail
            (first | go_ret | go_ret2)
            exact ⟨by rw [HF.out]; rfl, HB0.out⟩
        · clear hxyz
          go_enter Tryz.func21, Tryz.ntmps21
          go_wp2_with fail
          (first | go_ret | go_ret2)
          exact ⟨by rw [HF.out]; rfl, HB0.out⟩
      · clear hxyz
        go_enter Tryz.func21, Tryz.ntmps21
        go_wp2_with fail
        (first | go_ret | go_ret2)
        exact ⟨by rw [HF.out]; rfl, HB0.out⟩
    refine key _ _ _ rfl rfl rfl ?_
    rw [Bool.or_eq_true, Bool.or_eq_true, bne_iff_ne, bne_iff_ne, bne_iff_ne]
    by_cases h1 : k = k'
    · by_cases h2 : m = m'
      · exact .inr (fun e => hk ⟨h1, h2, by omega⟩)
      · exact .inl (.inr (by omega))
    · exact .inl (.inl h1)
  obtain ⟨rfl, rfl, rfl⟩ := hk
  have HRa : Hid (r = (decide (ns = ms) && sameL ps qs)) := by unfold Hid; rw [HR.out, decide_eq_true rfl, Bool.true_and]
  clear HR
  go_enter Tryz.func21, Tryz.ntmps21
  go_wp2_with fail
  obtain ⟨W, hW⟩ : ∃ W, W = (w.alloc (.cells (tarr k An m cn A n c) 25)).alloc (.cells (tarr k Bn m dn B n d) 25) := ⟨_, rfl⟩
  rw [← hW] at HB0 HNA HNB HT HT' HR1 HR2 rc1 rc2 ⊢
  clear hW rc1 rc2
  go_loopg [5] (m + 1) (fun kx s5 wr => ∃ i : Nat, s5 = .int .i64 i ∧ m - i ≤ kx ∧ i ≤ m ∧ Hid (ns.take i = ms.take i) ∧ Hid (Below W.heap.size W wr))
  case atStart => exact ⟨0, rfl, by omega, by omega, by simp [Hid], Below.refl _ _⟩
  case round =>
    obtain ⟨i, rfl, hkx, hin, HQ, HB⟩ := hrel
    have rc1 := (HR1.out.below HB.out HR1.out.lt).cell
    have rc2 := (HR2.out.below HB.out HR2.out.lt).cell
    by_cases hi : i < m
    · have hil : (i : Int) < (m : Int) := by omega
      obtain ⟨s, e⟩ := get_lt (l := ns) (i := i) (by rw [← HM.out]; exact hi)
      obtain ⟨s', e'⟩ := get_lt (l := ms) (i := i) (by rw [← HM'.out]; exact hi)
      obtain ⟨g, o, hA, _, hg, z0, _⟩ := (HNA.out.below HB.out).nth e
      obtain ⟨g', o', hA', _, hg', z0', _⟩ := (HNB.out.below HB.out).nth e'
      have HE := Lib.hid e
      have HE' := Lib.hid e'
      obtain ⟨j, hj⟩ : ∃ j, j = i + 1 := ⟨_, rfl⟩
      subst hA hA'
      clear e e'
      by_cases hs : s = s'
      · have hq : (s.toList == s'.toList) = true := by rw [beq_ba]; exact decide_eq_true hs
        have HQ2 := Lib.hid (take_same HQ.out HE.out HE'.out hs)
        clear hs
        go_wp2_with fail
        go_quiet (fail)
        go_wp2_with fail
        go_roundg (m - j)
        case measure => omega
        case rel => exact ⟨j, by rw [hj]; go_num, by omega, by omega, by rw [hj]; exact HQ2.out, below_drewN HB.out _⟩
      · have hq : (s.toList == s'.toList) = false := by rw [beq_ba]; exact decide_eq_false hs
        have HQ2 := Lib.hid (ne_at HE.out HE'.out hs)
        clear hs
        go_wp2_with fail
        go_quiet (fail)
        go_wp2_with fail
        (first | go_ret | go_ret2)
        exact ⟨by rw [HRa.out, decide_eq_false HQ2.out]; rfl, below_drewN (HB0.out.trans (HB.out.mono HB0.out.size)) _⟩
    · have hil : ¬ (i : Int) < (m : Int) := by omega
      obtain rfl : i = m := by omega
      have HR : Hid (r = sameL ps qs) := by unfold Hid; rw [HRa.out, decide_eq_true (eq_of_take HQ.out HM.out HM'.out), Bool.true_and]
      have HTx := Lib.hid (HT.out.below HB.out)
      have HTy := Lib.hid (HT'.out.below HB.out)
      have HRx := Lib.hid (HR1.out.below HB.out HR1.out.lt)
      have HRy := Lib.hid (HR2.out.below HB.out HR2.out.lt)
      have HBx := Lib.hid (HB0.out.trans (HB.out.mono HB0.out.size))
      clear hi HQ HB HNA HNB
      go_wp2_with fail
      clear rc1 rc2
      obtain ⟨V, rfl⟩ : ∃ V, V = wr := ⟨_, rfl⟩
      go_loopg [6] (n + 1) (fun kx s6 wr => ∃ j : Nat, s6 = .int .i64 j ∧ n - j ≤ kx ∧ j ≤ n ∧ Hid (sameL (ps.take j) (qs.take j) = true) ∧ Hid (Below V.heap.size V wr))
      case atStart => exact ⟨0, rfl, by omega, by omega, by simp [Hid, sameL], Below.refl _ _⟩
      case round =>
        obtain ⟨j, rfl, hkx2, hjn, HQ, HB⟩ := hrel
        have X1 := Lib.hid (HRx.out.below HB.out HRx.out.lt)
        have X2 := Lib.hid (HRy.out.below HB.out HRy.out.lt)
        have rc1 := X1.out.cell
        have rc2 := X2.out.cell
        by_cases hj : j < n
        · have hjl : (j : Int) < (n : Int) := by omega
          obtain ⟨s, e⟩ := get_lt (l := ps) (i := j) (by rw [← HL.out]; exact hj)
          obtain ⟨s', e'⟩ := get_lt (l := qs) (i := j) (by rw [← HL'.out]; exact hj)
          obtain ⟨g, o, An2, cn2, A2, c2, hA, hP, hg, hti, a0, a1, a2⟩ := (HTx.out.below HB.out).nth e
          obtain ⟨g', o', Bn2, dn2, B2, d2, hA', hP', hg', hti', v0, v1, v2⟩ := (HTy.out.below HB.out).nth e'
          have CC : Hid (∀ w', Below wr.heap.size wr w' → Calls Tryz.prog 21 #[tv s An2 cn2 A2 c2, tv s' Bn2 dn2 B2 d2] w' fun e w'' => e = .returned (.bool (s.same s')) ∧ Below w'.heap.size w' w'') := fun w' hb =>
            HI.out s (List.mem_of_getElem? e) s' (List.mem_of_getElem? e') w' P P' An2 cn2 A2 c2 Bn2 dn2 B2 d2 (hti.below hb) (hti'.below hb)
          have zra := fun d os => cell_regrown (X1.out.cell 2) d os
          have zrb := fun d os => cell_regrown (X2.out.cell 2) d os
          have z0 := fun d os => cell_regrown a0 d os
          have z1 := fun d os => cell_regrown a1 d os
          have z2 := fun d os => cell_regrown a2 d os
          have u0 := fun d os => cell_regrown v0 d os
          have u1 := fun d os => cell_regrown v1 d os
          have u2 := fun d os => cell_regrown v2 d os
          obtain ⟨b, hb⟩ : ∃ b, b = s.same s' := ⟨_, rfl⟩
          have HBB := Lib.hid hb
          rw [← hb] at CC
          have HE := Lib.hid e
          have HE' := Lib.hid e'
          subst hA hA'
          obtain ⟨x, hx⟩ : ∃ x, x = j + 1 := ⟨_, rfl⟩
          have hbd : Hid (∀ d os, Below wr.heap.size wr (Go.Sort.grow (redrawn wr d) os)) := fun d os => below_regrown wr d os
          obtain ⟨k1, n1, p1⟩ := s
          obtain ⟨k2, n2, p2⟩ := s'
          simp only [kind_mk, names_mk, parts_mk] at z0 z1 z2 u0 u1 u2 CC
          clear e e' hti hti' hb a0 a1 a2 v0 v1 v2 hP hP' hg hg'
          go_wp2_with fail
          refine wp_region_quiet_below (by kernel_rfl) (by kernel_rfl) ?_
          repeat (go_big_quiet_step (first
            | (go_at_call 21; exact Calls.regrown_of (CC.out _ (hbd.out _ _)))))
          refine wpQuiet_nil ?_
          intro _ hw'
          obtain ⟨⟨dq, osq⟩, hw''⟩ := hw'
          subst hw''
          have HX := Lib.hid (HB.out.trans ((below_regrown wr dq osq).mono HB.out.size))
          generalize Go.Sort.grow (redrawn wr dq) osq = WX at *
          clear CC hbd zra zrb z0 z1 z2 u0 u1 u2 rc1 rc2
          cases b
          · have HQ2 := Lib.hid (zipB_no (q := Ty.same) HE.out HE'.out HBB.out.symm)
            go_wp2_with fail
            (first | go_ret | go_ret2)
            exact ⟨by rw [HR.out, ← zipB_same, HQ2.out]; rfl, HBx.out.trans (HX.out.mono HBx.out.size)⟩
          · have HQ2 : Hid (sameL (ps.take (j + 1)) (qs.take (j + 1)) = true) := by
              have := HQ.out
              rw [← zipB_same] at this
              unfold Hid
              rw [← zipB_same]
              exact zipB_take this HE.out HE'.out HBB.out.symm
            go_wp2_with fail
            go_roundg (n - x)
            case measure => omega
            case rel => exact ⟨x, by rw [hx]; go_num, by omega, by omega, by rw [hx]; exact HQ2.out, HX.out⟩
        · have hjl : ¬ (j : Int) < (n : Int) := by omega
          obtain rfl : j = n := by omega
          have HF : Hid (r = true) := by
            unfold Hid
            have := HQ.out
            rw [← zipB_same] at this
            rw [HR.out, ← zipB_same]
            exact zipB_all this HL.out HL'.out
          clear hj
          go_wp2_with fail
          (first | go_ret | go_ret2)
          exact ⟨by rw [HF.out]; rfl, HBx.out.trans (HB.out.mono HBx.out.size)⟩
theorem rsame_any : ∀ t : Ty, t.cnt ≤ 1000001 → ∀ t' : Ty, t'.cnt ≤ 1000001 → ∀ (w : World) (P P' : Nat → Prop) (An : Option Addr) (cn : Nat) (A : Option Addr) (c : Nat) (Bn : Option Addr) (dn : Nat) (B : Option Addr) (d : Nat), TI w P t An cn A c → TI w P' t' Bn dn B d →
      Calls Tryz.prog 21 #[tv t An cn A c, tv t' Bn dn B d] w fun e w' => e = .returned (.bool (t.same t')) ∧ Below w.heap.size w w' := by
  refine Ty.ind fun k ns ps ih hc t' hc' w P P' An cn A c Bn dn B d h h' => ?_
  obtain ⟨k', ms, qs⟩ := t'
  rw [Ty.cnt] at hc hc'
  have e1 := cntL_len ps
  have e2 := cntL_len qs
  exact rsame_step ps qs (by omega) (by omega) (fun a ha b hb => ih a ha (by have := cnt_mem ha; omega) b (by have := cnt_mem hb; omega)) w P P' k k' ns ms (by omega) (by omega) An cn A c Bn dn B d (TI_iff.1 h).1 (TI_iff.1 h').1 (TI_iff.1 h).2 (TI_iff.1 h').2 _ (by rw [Ty.same])
end Tm
end Go.Proofs.YtifkjngclkklfaaGreatDoor
/- Contracts: whether a type may be: the document's way, the program's. -/
namespace Go.Proofs.YtifkjngclkklfaaGreatDoor
open Go.RowKit Go.Op
namespace Tm
theorem less_not (a b : ByteArray) : (bytesLess a.toList b.toList || a.toList == b.toList) = !(bytesLess b.toList a.toList) := by
  have h1 := lt_tri (a := a) (b := b)
  have h2 := lt_asymm (a := a) (b := b)
  unfold lt at h1 h2
  rw [beq_ba]
  cases x : bytesLess a.toList b.toList
  · cases y : bytesLess b.toList a.toList
    · rw [h1 x y]; simp
    · have : a ≠ b := by
        rintro rfl
        rw [x] at y; cases y
      simp [this]
  · rw [h2 x]; rfl
@[go_sem] theorem geq_str (t : TypeId) (a b : ByteArray) : binOp .geq t (.string a) (.string b) = pure (.bool !(bytesLess a.toList b.toList)) := by simp [binOp, stringOp]
@[go_sem] theorem leq_str (t : TypeId) (a b : ByteArray) : binOp .leq t (.string a) (.string b) = pure (.bool !(bytesLess b.toList a.toList)) := by
  have : binOp .leq t (.string a) (.string b) = pure (.bool (bytesLess a.toList b.toList || a.toList == b.toList)) := by simp [binOp, stringOp]
  rw [this, less_not]
theorem rise_take1 : ∀ {ns : List ByteArray} {i : Nat} {p s : ByteArray}, ns[i]? = some p → ns[i + 1]? = some s → riseB (ns.take (i + 1 + 1)) = (riseB (ns.take (i + 1)) && lt p s)
  | [], i, p, s, h, _ => by simp at h
  | [a], i, p, s, _, h => by simp at h
  | a :: b :: l, 0, p, s, h, h' => by
    obtain rfl : a = p := by simpa using h
    obtain rfl : b = s := by simpa using h'
    simp [riseB]
  | a :: b :: l, i + 1, p, s, h, h' => by
    have ih := rise_take1 (ns := b :: l) (i := i) (by simpa using h) (by simpa using h')
    have e1 : (a :: b :: l).take (i + 1 + 1 + 1) = a :: b :: l.take (i + 1) := rfl
    have e2 : (a :: b :: l).take (i + 1 + 1) = a :: b :: l.take i := rfl
    have e3 : (b :: l).take (i + 1 + 1) = b :: l.take (i + 1) := rfl
    have e4 : (b :: l).take (i + 1) = b :: l.take i := rfl
    rw [e3, e4] at ih
    rw [e1, e2, riseB, riseB, ih, Bool.and_assoc]
theorem rise_of_take {ns : List ByteArray} {i : Nat} (h : riseB (ns.take i) = false) : riseB ns = false := by
  cases e : riseB ns
  · rfl
  · have key : ∀ (l : List ByteArray) (i : Nat), riseB l = true → riseB (l.take i) = true := by
      intro l
      induction l with
      | nil => intro i _; simp [riseB]
      | cons a l ih =>
        intro i hl
        cases i with
        | zero => simp [riseB]
        | succ i =>
          rw [List.take_succ_cons]
          refine rise_cons' (ih i (rise_tail hl)) fun x hx => rise_lt hl x (List.mem_of_mem_take hx)
    rw [key ns i e] at h
    cases h
where
  rise_cons' {n : ByteArray} {ns : List ByteArray} (h : riseB ns = true) (k : ∀ x ∈ ns, lt n x = true) : riseB (n :: ns) = true := rise_cons h k
/-- What holds of the first names. -/
def Lab (ns : List ByteArray) (i : Nat) : Prop := (ns.take i).all nmB = true ∧ riseB (ns.take i) = true
theorem Lab.zero (ns : List ByteArray) : Lab ns 0 := by simp [Lab, riseB]
theorem all_take' {ns : List ByteArray} {i : Nat} {s : ByteArray} (e : ns[i]? = some s) : (ns.take (i + 1)).all nmB = ((ns.take i).all nmB && nmB s) := by
  rw [List.take_add_one, e]; simp
theorem Lab.first {ns : List ByteArray} {s : ByteArray} (e : ns[0]? = some s) (h : nmB s = true) : Lab ns (0 + 1) := by
  refine ⟨by rw [all_take' e, h]; simp, ?_⟩
  cases ns with
  | nil => simp at e
  | cons a l => simp [riseB]
theorem Lab.next {ns : List ByteArray} {i : Nat} {p s : ByteArray} (h : Lab ns (i + 1)) (e : ns[i]? = some p) (e' : ns[i + 1]? = some s) (k : nmB s = true) (k' : lt p s = true) : Lab ns (i + 1 + 1) :=
  ⟨by rw [all_take' e', h.1, k]; rfl, by rw [rise_take1 e e', h.2, k']; rfl⟩
theorem Lab.all {ns : List ByteArray} {n : Nat} (h : Lab ns n) (hn : n = ns.length) : (ns.all nmB && riseB ns) = true := by
  obtain ⟨h1, h2⟩ := h
  rw [List.take_of_length_le (by omega)] at h1 h2
  rw [h1, h2]; rfl
theorem lab_no {ns : List ByteArray} {s : ByteArray} (h : s ∈ ns) (k : nmB s = false) : (ns.all nmB && riseB ns) = false := by
  have : ns.all nmB = false := by
    cases e : ns.all nmB
    · rfl
    · rw [List.all_eq_true] at e; rw [e s h] at k; cases k
  rw [this, Bool.false_and]
theorem lab_fall {ns : List ByteArray} {i : Nat} {p s : ByteArray} (e : ns[i]? = some p) (e' : ns[i + 1]? = some s) (k : lt p s = false) : (ns.all nmB && riseB ns) = false := by
  rw [rise_of_take (i := i + 1 + 1) (by rw [rise_take1 e e', k, Bool.and_false]), Bool.and_false]

set_option maxHeartbeats 4000000 in
set_option maxRecDepth 100000 in
theorem labels_any (w : World) (ns : List ByteArray) (P : Nat → Prop) (A : Option Addr) (c : Nat) (h : NV w P ns A c) (hl : ns.length ≤ 1000001) :
    Calls Tryz.prog 59 #[.slice A ns.length c] w fun e w' => e = .returned (.bool (ns.all nmB && riseB ns)) ∧ w = w' := by
  obtain ⟨r, hr⟩ : ∃ r, r = (ns.all nmB && riseB ns) := ⟨_, rfl⟩
  have HR := Lib.hid hr
  rw [← hr]
  have HK := Lib.hid h
  obtain ⟨n, hn⟩ : ∃ n, n = ns.length := ⟨_, rfl⟩
  have HN := Lib.hid hn
  have hn1 : n ≤ 1000001 := by omega
  rw [← hn]
  clear h hn hl hr
  go_enter Tryz.func59, Tryz.ntmps59
  go_wp2_with fail
  go_loopg [7] (n + 1) (fun kx s7 wr => ∃ i : Nat, s7 = .int .i64 i ∧ n - i ≤ kx ∧ i ≤ n ∧ Hid (Lab ns i) ∧ Hid (w = wr))
  case atStart => exact ⟨0, rfl, by omega, by omega, Lab.zero ns, rfl⟩
  case round =>
    obtain ⟨i, rfl, hkx, hin, HQ, HW⟩ := hrel
    obtain rfl := HW.out
    by_cases hi : i < n
    · have hil : (i : Int) < (n : Int) := by omega
      obtain ⟨s, e⟩ := get_lt (l := ns) (i := i) (by rw [← HN.out]; exact hi)
      obtain ⟨g, o, hA, _, hg, z0, hz⟩ := HK.out.nth e
      have HM := Lib.hid (List.mem_of_getElem? e)
      obtain ⟨j, hj⟩ : ∃ j, j = i + 1 := ⟨_, rfl⟩
      have C := Lib.hid (name_any s hz w)
      change Hid (Calls Tryz.prog 83 #[.string s] w fun e w' => e = .returned (.bool (nmB s)) ∧ w = w') at C
      obtain ⟨b, hb⟩ : ∃ b, b = nmB s := ⟨_, rfl⟩
      have HBB := Lib.hid hb
      rw [← hb] at C
      clear hb
      cases b
      · clear e
        subst hA
        go_wp2_with fail
        refine C.out.mono ?_
        rintro e w1 ⟨rfl, rfl⟩
        go_wp2_with fail
        (first | go_ret | go_ret2)
        exact ⟨by rw [HR.out, lab_no HM.out HBB.out.symm]; rfl, rfl⟩
      · cases i with
        | zero =>
          have HQ2 := Lib.hid (Lab.first e HBB.out.symm)
          rw [Nat.add_zero] at z0
          clear e
          subst hA
          go_wp2_with fail
          refine C.out.mono ?_
          rintro e w1 ⟨rfl, rfl⟩
          go_wp2_with fail
          go_roundg (n - j)
          case measure => omega
          case rel => exact ⟨j, by rw [hj]; go_num, by omega, by omega, by rw [hj]; exact HQ2.out, rfl⟩
        | succ i =>
          obtain ⟨p, e2⟩ := get_lt (l := ns) (i := i) (by rw [← HN.out]; omega)
          obtain ⟨g', o', hA', _, hg', y0, _⟩ := HK.out.nth e2
          rw [hA] at hA'
          injection hA' with hA'
          injection hA' with h1 h2
          subst h1 h2
          obtain ⟨x, hx⟩ : ∃ x, x = lt p s := ⟨_, rfl⟩
          have hx2 : bytesLess p.toList s.toList = x := hx.symm
          have HX := Lib.hid hx
          have HE := Lib.hid e
          have HE2 := Lib.hid e2
          obtain ⟨u, hu⟩ : ∃ u : Nat, u = i + 1 := ⟨_, rfl⟩
          have q1 : IntKind.i64.wrap ((u : Int) - 1) = (i : Int) := by rw [IntKind.wrap_i64]; omega
          have q2 : (u : Int) > 0 := by omega
          have q3 : (i : Int) < (n : Int) := by omega
          have q4 : (0 : Int) ≤ (i : Int) := by omega
          have HU := Lib.hid hu
          rw [← hu] at hi hil z0 hkx hin hj ⊢
          clear e e2 hu hx
          subst hA
          cases x
          · go_wp2_with fail
            refine C.out.mono ?_
            rintro e w1 ⟨rfl, rfl⟩
            go_wp2_with fail
            (first | go_ret | go_ret2)
            exact ⟨by rw [HR.out, lab_fall HE2.out HE.out HX.out.symm]; rfl, rfl⟩
          · have HQ2 := Lib.hid (HQ.out.next HE2.out HE.out HBB.out.symm HX.out.symm)
            go_wp2_with fail
            refine C.out.mono ?_
            rintro e w1 ⟨rfl, rfl⟩
            go_wp2_with fail
            go_roundg (n - j)
            case measure => omega
            case rel => exact ⟨j, by rw [hj]; go_num, by omega, by omega, by rw [hj, HU.out]; exact HQ2.out, rfl⟩
    · have hil : ¬ (i : Int) < (n : Int) := by omega
      obtain rfl : i = n := by omega
      have HF : Hid (r = true) := by unfold Hid; rw [HR.out]; exact HQ.out.all HN.out
      clear hi
      go_wp2_with fail
      (first | go_ret | go_ret2)
      exact ⟨by rw [HF.out]; rfl, rfl⟩
end Tm
end Go.Proofs.YtifkjngclkklfaaGreatDoor
/- Mathematics: tokens that are no end have one behind them. -/
namespace Go.Proofs.YtifkjngclkklfaaGreatDoor
open Go.RowKit
namespace Ps
theorem isM_next {l : List Tok} (h : Wf l) {i : Nat} {x : List UInt8} (hi : isM l i x = true) : i + 1 < l.length := by
  unfold isM at hi
  by_cases hl : i < l.length
  · rw [List.getElem?_eq_getElem hl] at hi
    simp only [Bool.and_eq_true, Bool.or_eq_true, beq_iff_eq] at hi
    exact h.next i hl (by omega)
  · rw [List.getElem?_eq_none (by omega)] at hi
    cases hi
theorem kindAt_next {l : List Tok} (h : Wf l) {i : Nat} (hi : kindAt l i ≠ 0) : i + 1 < l.length := by
  unfold kindAt at hi
  by_cases hl : i < l.length
  · rw [List.getElem?_eq_getElem hl] at hi
    exact h.next i hl hi
  · rw [List.getElem?_eq_none (by omega)] at hi
    exact absurd rfl hi
theorem wantM_lt {l : List Tok} (h : Wf l) {b : Int} {i : Nat} {x : List UInt8} (hi : i < l.length) : (wantM l b i x).1 < l.length := by
  unfold wantM
  split
  · exact hi
  · split
    · rename_i h1; exact isM_next h h1
    · exact hi
theorem wordM_lt {l : List Tok} (h : Wf l) {b : Int} {hd : Hd} {i : Nat} (hi : i < l.length) : (wordM l b hd i).2.1 < l.length := by
  unfold wordM
  split
  · exact hi
  · split
    · rename_i h1; exact kindAt_next h (by omega)
    · exact hi
theorem kindAt_get {l : List Tok} {i : Nat} (h : i < l.length) : kindAt l i = l[i].kind := by unfold kindAt; rw [List.getElem?_eq_getElem h]; rfl
theorem textAt_get {l : List Tok} {i : Nat} (h : i < l.length) : textAt l i = l[i].text := by unfold textAt; rw [List.getElem?_eq_getElem h]; rfl

end Ps
end Go.Proofs.YtifkjngclkklfaaGreatDoor
