/- Contracts: whether two types are the same: the document's way, the program's; names. -/
import Derived.Test.YtbjlhdjcdinmhaaDoorQF
import Derived.Lib.QuietBelow
namespace Go.Proofs.YtbjlhdjcdinmhaaDoor
open Go.RowKit
namespace Vm
set_option maxHeartbeats 4000000 in
set_option maxRecDepth 100000 in
theorem eqs_any (w : World) (ns ms : List ByteArray) (P P' : Nat → Prop) (A B : Option Addr) (c d : Nat) (h : NV w P ns A c) (h' : NV w P' ms B d) (hl : ns.length ≤ 1000001) (hl' : ms.length ≤ 1000001) :
    Calls Tryd.prog 38 #[.slice A ns.length c, .slice B ms.length d] w fun e w' => e = .returned (.bool (decide (ns = ms))) ∧ Below w.heap.size w w' := by
  have HK := Lib.hid h
  have HK' := Lib.hid h'
  obtain ⟨n, hn⟩ : ∃ n, n = ns.length := ⟨_, rfl⟩
  obtain ⟨m, hm⟩ : ∃ m, m = ms.length := ⟨_, rfl⟩
  have HN := Lib.hid hn
  have HM := Lib.hid hm
  have hn1 : n ≤ 1000001 := by omega
  have hm1 : m ≤ 1000001 := by omega
  rw [← hn, ← hm]
  clear h h' hn hm hl hl'
  by_cases hnm : n = m
  · subst hnm
    go_enter Tryd.func38, Tryd.ntmps38
    go_wp2_with fail
    go_loopg [13] (n + 1) (fun kx s13 wr => ∃ i : Nat, s13 = .int .i64 i ∧ n - i ≤ kx ∧ i ≤ n ∧ Hid (ns.take i = ms.take i) ∧ Hid (Below w.heap.size w wr))
    case atStart => exact ⟨0, rfl, by omega, by omega, by simp [Hid], Below.refl _ _⟩
    case round =>
      obtain ⟨i, rfl, hkx, hin, HQ, HB⟩ := hrel
      by_cases hi : i < n
      · have hil : (i : Int) < (n : Int) := by omega
        obtain ⟨s, e⟩ := get_lt (l := ns) (i := i) (by rw [← HN.out]; exact hi)
        obtain ⟨s', e'⟩ := get_lt (l := ms) (i := i) (by rw [← HM.out]; exact hi)
        obtain ⟨g, o, hA, _, hg, z0, _⟩ := (HK.out.below HB.out).nth e
        obtain ⟨g', o', hA', _, hg', z0', _⟩ := (HK'.out.below HB.out).nth e'
        have HE := Lib.hid e
        have HE' := Lib.hid e'
        obtain ⟨j, hj⟩ : ∃ j, j = i + 1 := ⟨_, rfl⟩
        subst hA hA'
        clear e e'
        by_cases hs : s = s'
        · have hq : (s.toList == s'.toList) = true := by rw [beq_ba]; exact decide_eq_true hs
          have HQ2 := Lib.hid (take_same HQ.out HE.out HE'.out hs)
          clear hs
          go_wp2_with fail
          go_quiet (fail)
          go_wp2_with fail
          go_roundg (n - j)
          case measure => omega
          case rel => exact ⟨j, by rw [hj]; go_num, by omega, by omega, by rw [hj]; exact HQ2.out, below_drewN HB.out _⟩
        · have hq : (s.toList == s'.toList) = false := by rw [beq_ba]; exact decide_eq_false hs
          have HQ2 := Lib.hid (ne_at HE.out HE'.out hs)
          clear hs
          go_wp2_with fail
          go_quiet (fail)
          go_wp2_with fail
          (first | go_ret | go_ret2)
          exact ⟨by rw [decide_eq_false HQ2.out]; rfl, below_drewN HB.out _⟩
      · have hil : ¬ (i : Int) < (n : Int) := by omega
        have h1 : Hid (ns.take i = ms.take i) := HQ
        obtain rfl : i = n := by omega
        go_wp2_with fail
        (first | go_ret | go_ret2)
        exact ⟨by rw [decide_eq_true (eq_of_take HQ.out HN.out HM.out)]; rfl, HB.out⟩
  · have hne : ((n : Int) != (m : Int)) = true := by rw [bne_iff_ne]; omega
    have hne2 : ((n : Int) == (m : Int)) = false := by rw [beq_eq_false_iff_ne]; omega
    have HF : Hid (ns ≠ ms) := fun e => hnm (by rw [HN.out, HM.out, e])
    clear hnm
    go_enter Tryd.func38, Tryd.ntmps38
    go_wp2_with fail
    (first | go_ret | go_ret2)
    exact ⟨by rw [decide_eq_false HF.out]; rfl, Below.refl _ _⟩

/-- A function value that says of pairs of types whether q. -/
def Ask2V (w : World) (v : Value) (ps qs : List Vl) (q : Vl → Vl → Bool) : Prop :=
  ∃ F caps, v = .func (.func F) #[] caps ∧ (∀ u v w, (callFunc F (#[u, v] ++ caps)).run Tryd.prog w = .ok (.enter F (#[u, v] ++ caps)) w) ∧
    ∀ a ∈ ps, ∀ b ∈ qs, ∀ (w' : World) (P P' : Nat → Prop) (An : Option Addr) (cn : Nat) (A : Option Addr) (c : Nat) (Bn : Option Addr) (dn : Nat) (B : Option Addr) (d : Nat), Below w.heap.size w w' → VI w' P a An cn A c → VI w' P' b Bn dn B d →
      Calls Tryd.prog F (#[vv a An cn A c, vv b Bn dn B d] ++ caps) w' fun e w2 => e = .returned (.bool (q a b)) ∧ Below w'.heap.size w' w2
/-- Whether two lists of types go together, one by one. -/
def zipB (q : Vl → Vl → Bool) : List Vl → List Vl → Bool
  | [], [] => true
  | a :: l, b :: m => q a b && zipB q l m
  | _, _ => false
theorem zipB_len {q : Vl → Vl → Bool} : ∀ {l m : List Vl}, l.length ≠ m.length → zipB q l m = false
  | [], [], h => absurd rfl h
  | [], _ :: _, _ => rfl
  | _ :: _, [], _ => rfl
  | a :: l, b :: m, h => by rw [zipB, zipB_len (by simpa using h), Bool.and_false]
theorem zipB_no {q : Vl → Vl → Bool} : ∀ {l m : List Vl} {i : Nat} {a b : Vl}, l[i]? = some a → m[i]? = some b → q a b = false → zipB q l m = false
  | [], _, i, a, b, h, _, _ => by simp at h
  | _ :: _, [], i, a, b, _, h, _ => by simp at h
  | x :: l, y :: m, 0, a, b, h, h', k => by
    obtain rfl : x = a := by simpa using h
    obtain rfl : y = b := by simpa using h'
    rw [zipB, k, Bool.false_and]
  | x :: l, y :: m, i + 1, a, b, h, h', k => by rw [zipB, zipB_no (l := l) (m := m) (i := i) (by simpa using h) (by simpa using h') k, Bool.and_false]
theorem zipB_take {q : Vl → Vl → Bool} : ∀ {l m : List Vl} {i : Nat} {a b : Vl}, zipB q (l.take i) (m.take i) = true → l[i]? = some a → m[i]? = some b → q a b = true → zipB q (l.take (i + 1)) (m.take (i + 1)) = true
  | [], _, i, a, b, _, h, _, _ => by simp at h
  | _ :: _, [], i, a, b, _, _, h, _ => by simp at h
  | x :: l, y :: m, 0, a, b, _, h, h', k => by
    obtain rfl : x = a := by simpa using h
    obtain rfl : y = b := by simpa using h'
    simp [zipB, k]
  | x :: l, y :: m, i + 1, a, b, hz, h, h', k => by
    rw [List.take_succ_cons, List.take_succ_cons, zipB, Bool.and_eq_true] at hz
    rw [List.take_succ_cons, List.take_succ_cons, zipB, Bool.and_eq_true]
    exact ⟨hz.1, zipB_take hz.2 (by simpa using h) (by simpa using h') k⟩
theorem zipB_all {q : Vl → Vl → Bool} {l m : List Vl} {n : Nat} (h : zipB q (l.take n) (m.take n) = true) (h1 : n = l.length) (h2 : n = m.length) : zipB q l m = true := by
  rw [List.take_of_length_le (by omega), List.take_of_length_le (by omega)] at h
  exact h

set_option maxHeartbeats 4000000 in
set_option maxRecDepth 100000 in
theorem equalf_any (w : World) (v : Value) (ps qs : List Vl) (q : Vl → Vl → Bool) (P P' : Nat → Prop) (A B : Option Addr) (c d : Nat) (hv : Ask2V w v ps qs q) (h : VV w P ps A c) (h' : VV w P' qs B d) (hl : ps.length ≤ 1000001) (hl' : qs.length ≤ 1000001) :
    Calls Tryd.prog 39 #[.slice A ps.length c, .slice B qs.length d, v] w fun e w' => e = .returned (.bool (zipB q ps qs)) ∧ Below w.heap.size w w' := by
  obtain ⟨F, caps, rfl, eF, h3⟩ := hv
  have HK := Lib.hid h
  have HK' := Lib.hid h'
  have HI := Lib.hid h3
  obtain ⟨n, hn⟩ : ∃ n, n = ps.length := ⟨_, rfl⟩
  obtain ⟨m, hm⟩ : ∃ m, m = qs.length := ⟨_, rfl⟩
  have HN := Lib.hid hn
  have HM := Lib.hid hm
  have hn1 : n ≤ 1000001 := by omega
  have hm1 : m ≤ 1000001 := by omega
  rw [← hn, ← hm]
  clear h h' h3 hn hm hl hl'
  by_cases hnm : n = m
  · subst hnm
    go_enter Tryd.func39, Tryd.ntmps39
    go_wp2_with fail
    go_loopg [17] (n + 1) (fun kx s17 wr => ∃ i : Nat, s17 = .int .i64 i ∧ n - i ≤ kx ∧ i ≤ n ∧ Hid (zipB q (ps.take i) (qs.take i) = true) ∧ Hid (Below w.heap.size w wr))
    case atStart => exact ⟨0, rfl, by omega, by omega, by simp [Hid, zipB], Below.refl _ _⟩
    case round =>
      obtain ⟨i, rfl, hkx, hin, HQ, HB⟩ := hrel
      by_cases hi : i < n
      · have hil : (i : Int) < (n : Int) := by omega
        obtain ⟨s, e⟩ := get_lt (l := ps) (i := i) (by rw [← HN.out]; exact hi)
        obtain ⟨s', e'⟩ := get_lt (l := qs) (i := i) (by rw [← HM.out]; exact hi)
        obtain ⟨g, o, An2, cn2, A2, c2, hA, hP, hg, hti, z0, z1, z2, z3, z4⟩ := (HK.out.below HB.out).nth e
        have q1 : Below wr.heap.size wr (wr.alloc (.cells (varr s.hd An2 s.names.length cn2 A2 s.parts.length c2) 34)) := bel1 wr _
        obtain ⟨g', o', Bn2, dn2, B2, d2, hA', hP', hg', hti', u0, u1, u2, u3, u4⟩ := ((HK'.out.below HB.out).below q1).nth e'
        have HE := Lib.hid e
        have HE' := Lib.hid e'
        have q2 : Below (wr.alloc (.cells (varr s.hd An2 s.names.length cn2 A2 s.parts.length c2) 34)).heap.size (wr.alloc (.cells (varr s.hd An2 s.names.length cn2 A2 s.parts.length c2) 34)) _ := bel1 _ (.cells (varr s'.hd Bn2 s'.names.length dn2 B2 s'.parts.length d2) 34)
        have CC := Lib.hid (HI.out s (List.mem_of_getElem? e) s' (List.mem_of_getElem? e') _ P P' An2 cn2 A2 c2 Bn2 dn2 B2 d2 (HB.out.trans ((q1.trans (q2.mono q1.size)).mono HB.out.size)) ((hti.below q1).below q2) (hti'.below q2))
        have HB2 := Lib.hid (HB.out.trans ((q1.trans (q2.mono q1.size)).mono HB.out.size))
        obtain ⟨j, hj⟩ : ∃ j, j = i + 1 := ⟨_, rfl⟩
        have r1 := ((RowB.new wr 34 (varr s.hd An2 s.names.length cn2 A2 s.parts.length c2)).alloc (.cells (varr s'.hd Bn2 s'.names.length dn2 B2 s'.parts.length d2) 34)).cell
        have r2 := (RowB.new (wr.alloc (.cells (varr s.hd An2 s.names.length cn2 A2 s.parts.length c2) 34)) 34 (varr s'.hd Bn2 s'.names.length dn2 B2 s'.parts.length d2)).cell
        have eV := eF (vv s An2 cn2 A2 c2) (vv s' Bn2 dn2 B2 d2)
        obtain ⟨b, hb⟩ : ∃ b, b = q s s' := ⟨_, rfl⟩
        have HBB := Lib.hid hb
        rw [← hb] at CC
        subst hA hA'
        obtain ⟨k1, n1, p1⟩ := s
        obtain ⟨k2, n2, p2⟩ := s'
        simp only [hd_mk, names_mk, parts_mk] at z0 z1 z2 z3 z4 u0 u1 u2 u3 u4 CC r1 r2 eV HB2
        clear e e' hti hti' q1 q2 hb
        go_wp2_with fail
        refine CC.out.mono ?_
        rintro e w2 ⟨rfl, h2⟩
        have HB3 : Hid (Below w.heap.size w w2) := HB2.out.trans (h2.mono HB2.out.size)
        clear h2 CC r1 r2 z0 z1 z2 z3 z4 u0 u1 u2 u3 u4 HB2
        cases b
        · have HQ2 := Lib.hid (zipB_no HE.out HE'.out HBB.out.symm)
          go_wp2_with fail
          (first | go_ret | go_ret2)
          exact ⟨by rw [HQ2.out]; rfl, HB3.out⟩
        · have HQ2 := Lib.hid (zipB_take HQ.out HE.out HE'.out HBB.out.symm)
          go_wp2_with fail
          go_roundg (n - j)
          case measure => omega
          case rel => exact ⟨j, by rw [hj]; go_num, by omega, by omega, by rw [hj]; exact HQ2.out, HB3.out⟩
      · have hil : ¬ (i : Int) < (n : Int) := by omega
        obtain rfl : i = n := by omega
        go_wp2_with fail
        (first | go_ret | go_ret2)
        exact ⟨by rw [zipB_all HQ.out HN.out HM.out]; rfl, HB.out⟩
  · have hne : ((n : Int) != (m : Int)) = true := by rw [bne_iff_ne]; omega
    have hne2 : ((n : Int) == (m : Int)) = false := by rw [beq_eq_false_iff_ne]; omega
    have HF : Hid (zipB q ps qs = false) := zipB_len (by rw [← HN.out, ← HM.out]; exact hnm)
    clear hnm
    go_enter Tryd.func39, Tryd.ntmps39
    go_wp2_with fail
    (first | go_ret | go_ret2)
    exact ⟨by rw [HF.out]; rfl, Below.refl _ _⟩
end Vm
end Go.Proofs.YtbjlhdjcdinmhaaDoor
