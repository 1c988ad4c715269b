/- The law EditThree returns true, whatever it is given. -/
import Derived.Test.YtendbkbjmibchaaEditBothWalk
namespace Go.Proofs.Ytendbkbjmibchaa
open Go.RowKit

theorem light_three {n : Nat} {a b c : List Ed} (h : lightB n a = true) (g : lightB n b = true) (k : lightB n c = true) (hn : n ≤ 140737488351232) : n + tot a + tot b + tot c ≤ 140737488355328 := by
  have h1 := light_tot k
  have h2 := light_tot g
  rcases (light_len h).2 with rfl | h3
  · rcases (light_len g).2 with rfl | h4
    · simp only [tot]; omega
    · simp only [tot]; omega
  · omega
theorem apply_is (s t : ByteArray) (A : Option Addr) (cap : Nat) (es : List Ed) (w : World) (hes : Eds w w.heap.size A es) (hl : es.length ≤ 100000) (hs : snd es s.size = 0) (ht : t = ⟨(apd s es).toArray⟩) (hlen : t.size ≤ 140737488355328) :
    Calls Try.prog 33 #[.string s, .slice A es.length cap] w fun e w' => e = .returned (.tuple #[.string t, .int .i64 0]) ∧ Below w.heap.size w w' := by
  subst ht
  exact apply_ok s A cap es w hes hl hs hlen
theorem apply_any (s : ByteArray) (A : Option Addr) (cap : Nat) (es : List Ed) (hl : es.length ≤ 100000) (hz : s.size + tot es ≤ 140737488355328) :
    ∃ t : ByteArray, t.size ≤ s.size + tot es ∧ (snd es s.size = 0 → t = ⟨(apd s es).toArray⟩) ∧ ∀ w, Eds w w.heap.size A es → Calls Try.prog 33 #[.string s, .slice A es.length cap] w fun e w' => e = .returned (.tuple #[.string t, .int .i64 (snd es s.size)]) ∧ Below w.heap.size w w' := by
  by_cases hs : snd es s.size = 0
  · have := apd_len s es hs
    refine ⟨⟨(apd s es).toArray⟩, this, fun _ => rfl, fun w h => ?_⟩
    rw [hs]
    exact apply_ok s A cap es w h hl hs (by omega)
  · exact ⟨⟨#[]⟩, by show 0 ≤ _; omega, fun h => absurd h hs, fun w h => apply_no s A cap es w h hl hs⟩
theorem compose_is (A1 A2 : Option Addr) (c1 c2 : Nat) (a b E : List Ed) (n : Int) (w : World) (h0 : 0 ≤ n) (hn : n ≤ 140737488355328) (ha : Eds w w.heap.size A1 a) (hb : Eds w w.heap.size A2 b) (hs : snd a n = 0) (ht : tot a + tot b ≤ 140737488355328) (hs2 : snd b (n + grows a) = 0) (hE : E = cmpd a b n) :
    Calls Try.prog 39 #[.slice A1 a.length c1, .slice A2 b.length c2, .int .i64 n] w fun e w' => ∃ A' c', e = .returned (.tuple #[.slice A' E.length c', .int .i64 0]) ∧ Eds w' w'.heap.size A' E ∧ Below w.heap.size w w' := by
  subst hE
  exact compose_ok A1 A2 c1 c2 a b n w h0 hn ha hb hs ht hs2
theorem apd_size (s t : ByteArray) (es : List Ed) (hs : snd es s.size = 0) (ht : t = ⟨(apd s es).toArray⟩) : (s.size : Int) + grows es = t.size ∧ t.size = (apd s es).length := by
  have := apd_grows s es none 0 (by omega) (by omega) (.inl ⟨rfl, rfl⟩) (snd_go hs).2
  have h2 : t.size = (apd s es).length := by rw [ht]; simp [ByteArray.size]
  refine ⟨?_, h2⟩
  rw [h2]; unfold apd; omega

set_option maxHeartbeats 8000000 in
set_option maxRecDepth 100000 in
theorem editThree_walk (s : ByteArray) (A1 A2 A3 : Option Addr) (c1 c2 c3 : Nat) (a b c : List Ed) (w : World) (ha : Eds w w.heap.size A1 a) (hla : a.length ≤ maxLen) (hb : Eds w w.heap.size A2 b) (hlb : b.length ≤ maxLen) (hc : Eds w w.heap.size A3 c) (hlc : c.length ≤ maxLen) (hm : s.size ≤ 140737488351232)
    (hxa : ∀ e ∈ a, e.x.size ≤ 140737488351232) (hxb : ∀ e ∈ b, e.x.size ≤ 140737488351232) (hxc : ∀ e ∈ c, e.x.size ≤ 140737488351232) :
    Calls Try.prog 12 #[.string s, .slice A1 a.length c1, .slice A2 b.length c2, .slice A3 c.length c3] w fun e w' => e = .returned (.bool true) ∧ Below w.heap.size w w' := by
  unfold maxLen at hla hlb hlc
  have E1 := Lib.hid ha
  have E2 := Lib.hid hb
  have E3 := Lib.hid hc
  have X1 : Hid (∀ e ∈ a, e.x.size ≤ 1000000000000000) := fun e he => by have := hxa e he; omega
  have X2 : Hid (∀ e ∈ b, e.x.size ≤ 1000000000000000) := fun e he => by have := hxb e he; omega
  have X3 : Hid (∀ e ∈ c, e.x.size ≤ 1000000000000000) := fun e he => by have := hxc e he; omega
  clear ha hb hc hxa hxb hxc
  cases hL1 : lightB s.size a
  · have L1 := Lib.hid hL1
    clear hL1
    go_enter Try.func12, Try.ntmps12
    go_wp2_with fail
    refine (light_any s A1 c1 a _ E1.out (by omega) (by omega) X1.out).mono ?_
    rintro e w1 ⟨rfl, hb⟩
    have B1 := Lib.hid hb
    rw [L1.out]
    clear hb
    go_wp2_with fail
    refine (awake_edit _).mono ?_
    rintro e w2 ⟨rfl, hb⟩
    have B2 := Lib.hid (B1.out.trans (hb.mono B1.out.size))
    clear hb
    go_wp2
    go_ret
    exact ⟨rfl, B2.out⟩
  have L1 := Lib.hid hL1
  have hl1 := (light_len hL1).1
  clear hL1
  cases hL2 : lightB s.size b
  · have L2 := Lib.hid hL2
    clear hL2
    go_enter Try.func12, Try.ntmps12
    go_wp2_with fail
    refine (light_any s A1 c1 a _ E1.out (by omega) (by omega) X1.out).mono ?_
    rintro e w1 ⟨rfl, hb⟩
    have B1 := Lib.hid hb
    rw [L1.out]
    clear hb
    go_wp2_with fail
    refine (light_any s A2 c2 b _ ((E2.out.below B1.out).more B1.out.size) (by omega) (by omega) X2.out).mono ?_
    rintro e w2 ⟨rfl, hb⟩
    have B2 := Lib.hid (B1.out.trans (hb.mono B1.out.size))
    rw [L2.out]
    clear hb
    go_wp2_with fail
    refine (awake_edit _).mono ?_
    rintro e w3 ⟨rfl, hb⟩
    have B3 := Lib.hid (B2.out.trans (hb.mono B2.out.size))
    clear hb
    go_wp2
    go_ret
    exact ⟨rfl, B3.out⟩
  have L2 := Lib.hid hL2
  have hl2 := (light_len hL2).1
  clear hL2
  cases hL3 : lightB s.size c
  · have L3 := Lib.hid hL3
    clear hL3
    go_enter Try.func12, Try.ntmps12
    go_wp2_with fail
    refine (light_any s A1 c1 a _ E1.out (by omega) (by omega) X1.out).mono ?_
    rintro e w1 ⟨rfl, hb⟩
    have B1 := Lib.hid hb
    rw [L1.out]
    clear hb
    go_wp2_with fail
    refine (light_any s A2 c2 b _ ((E2.out.below B1.out).more B1.out.size) (by omega) (by omega) X2.out).mono ?_
    rintro e w2 ⟨rfl, hb⟩
    have B2 := Lib.hid (B1.out.trans (hb.mono B1.out.size))
    rw [L2.out]
    clear hb
    go_wp2_with fail
    refine (light_any s A3 c3 c _ ((E3.out.below B2.out).more B2.out.size) (by omega) (by omega) X3.out).mono ?_
    rintro e w3 ⟨rfl, hb⟩
    have B3 := Lib.hid (B2.out.trans (hb.mono B2.out.size))
    rw [L3.out]
    clear hb
    go_wp2_with fail
    refine (awake_edit _).mono ?_
    rintro e w4 ⟨rfl, hb⟩
    have B4 := Lib.hid (B3.out.trans (hb.mono B3.out.size))
    clear hb
    go_wp2
    go_ret
    exact ⟨rfl, B4.out⟩
  have L3 := Lib.hid hL3
  have hl3 := (light_len hL3).1
  clear hL3
  have htt := light_three L1.out L2.out L3.out hm
  by_cases h300 : (300 : Int) < (a.length : Int) + (b.length : Int) + (c.length : Int)
  ·
    go_enter Try.func12, Try.ntmps12
    go_wp2_with fail
    refine (light_any s A1 c1 a _ E1.out (by omega) (by omega) X1.out).mono ?_
    rintro e w1 ⟨rfl, hb⟩
    have B1 := Lib.hid hb
    rw [L1.out]
    clear hb
    go_wp2_with fail
    refine (light_any s A2 c2 b _ ((E2.out.below B1.out).more B1.out.size) (by omega) (by omega) X2.out).mono ?_
    rintro e w2 ⟨rfl, hb⟩
    have B2 := Lib.hid (B1.out.trans (hb.mono B1.out.size))
    rw [L2.out]
    clear hb
    go_wp2_with fail
    refine (light_any s A3 c3 c _ ((E3.out.below B2.out).more B2.out.size) (by omega) (by omega) X3.out).mono ?_
    rintro e w3 ⟨rfl, hb⟩
    have B3 := Lib.hid (B2.out.trans (hb.mono B2.out.size))
    rw [L3.out]
    clear hb
    go_wp2_with fail
    refine (awake_edit _).mono ?_
    rintro e w4 ⟨rfl, hb⟩
    have B4 := Lib.hid (B3.out.trans (hb.mono B3.out.size))
    clear hb
    go_wp2
    go_ret
    exact ⟨rfl, B4.out⟩
  have h300' : (a.length : Int) + (b.length : Int) + (c.length : Int) ≤ 300 := by omega
  have h300d : decide ((300 : Int) < (a.length : Int) + (b.length : Int) + (c.length : Int)) = false := decide_eq_false h300
  clear h300
  obtain ⟨x, hx1, hx2, hx3⟩ := apply_any s A1 c1 a (by omega) (by omega)
  obtain ⟨y, hy1, hy2, hy3⟩ := apply_any x A2 c2 b (by omega) (by omega)
  obtain ⟨z, hz1, hz2, hz3⟩ := apply_any y A3 c3 c (by omega) (by omega)
  have P1 := Lib.hid hx3
  have P2 := Lib.hid hy3
  have P3 := Lib.hid hz3
  have Q1 := Lib.hid hx2
  have Q2 := Lib.hid hy2
  have Q3 := Lib.hid hz2
  clear hx2 hy2 hz2 hx3 hy3 hz3
  by_cases hs1 : snd a s.size = 0
  case neg =>
    have g1 : (snd a s.size == 0) = false := by simpa using hs1
    have g2 : (snd a s.size != 0) = true := by simpa using hs1
    clear hs1
    go_enter Try.func12, Try.ntmps12
    go_wp2_with fail
    refine (light_any s A1 c1 a _ E1.out (by omega) (by omega) X1.out).mono ?_
    rintro e w1 ⟨rfl, hb⟩
    have B1 := Lib.hid hb
    rw [L1.out]
    clear hb
    go_wp2_with fail
    refine (light_any s A2 c2 b _ ((E2.out.below B1.out).more B1.out.size) (by omega) (by omega) X2.out).mono ?_
    rintro e w2 ⟨rfl, hb⟩
    have B2 := Lib.hid (B1.out.trans (hb.mono B1.out.size))
    rw [L2.out]
    clear hb
    go_wp2_with fail
    refine (light_any s A3 c3 c _ ((E3.out.below B2.out).more B2.out.size) (by omega) (by omega) X3.out).mono ?_
    rintro e w3 ⟨rfl, hb⟩
    have B3 := Lib.hid (B2.out.trans (hb.mono B2.out.size))
    rw [L3.out]
    clear hb
    go_wp2_with fail
    refine (P1.out _ ((E1.out.below B3.out).more B3.out.size)).mono ?_
    rintro e w4 ⟨rfl, hb⟩
    have B4 := Lib.hid (B3.out.trans (hb.mono B3.out.size))
    clear hb
    go_wp2_with fail
    refine (P2.out _ ((E2.out.below B4.out).more B4.out.size)).mono ?_
    rintro e w5 ⟨rfl, hb⟩
    have B5 := Lib.hid (B4.out.trans (hb.mono B4.out.size))
    clear hb
    go_wp2_with fail
    refine (P3.out _ ((E3.out.below B5.out).more B5.out.size)).mono ?_
    rintro e w6 ⟨rfl, hb⟩
    have B6 := Lib.hid (B5.out.trans (hb.mono B5.out.size))
    clear hb
    go_wp2_with fail
    refine (awake_edit _).mono ?_
    rintro e w7 ⟨rfl, hb⟩
    have B7 := Lib.hid (B6.out.trans (hb.mono B6.out.size))
    clear hb
    go_wp2
    go_ret
    exact ⟨rfl, B7.out⟩
  have S1 := Lib.hid hs1
  clear hs1
  by_cases hs2 : snd b x.size = 0
  case neg =>
    have g1 : (snd b x.size == 0) = false := by simpa using hs2
    have g2 : (snd b x.size != 0) = true := by simpa using hs2
    clear hs2
    go_enter Try.func12, Try.ntmps12
    go_wp2_with fail
    refine (light_any s A1 c1 a _ E1.out (by omega) (by omega) X1.out).mono ?_
    rintro e w1 ⟨rfl, hb⟩
    have B1 := Lib.hid hb
    rw [L1.out]
    clear hb
    go_wp2_with fail
    refine (light_any s A2 c2 b _ ((E2.out.below B1.out).more B1.out.size) (by omega) (by omega) X2.out).mono ?_
    rintro e w2 ⟨rfl, hb⟩
    have B2 := Lib.hid (B1.out.trans (hb.mono B1.out.size))
    rw [L2.out]
    clear hb
    go_wp2_with fail
    refine (light_any s A3 c3 c _ ((E3.out.below B2.out).more B2.out.size) (by omega) (by omega) X3.out).mono ?_
    rintro e w3 ⟨rfl, hb⟩
    have B3 := Lib.hid (B2.out.trans (hb.mono B2.out.size))
    rw [L3.out]
    clear hb
    go_wp2_with fail
    refine (P1.out _ ((E1.out.below B3.out).more B3.out.size)).mono ?_
    rintro e w4 ⟨rfl, hb⟩
    have B4 := Lib.hid (B3.out.trans (hb.mono B3.out.size))
    rw [S1.out]
    clear hb
    go_wp2_with fail
    refine (P2.out _ ((E2.out.below B4.out).more B4.out.size)).mono ?_
    rintro e w5 ⟨rfl, hb⟩
    have B5 := Lib.hid (B4.out.trans (hb.mono B4.out.size))
    clear hb
    go_wp2_with fail
    refine (P3.out _ ((E3.out.below B5.out).more B5.out.size)).mono ?_
    rintro e w6 ⟨rfl, hb⟩
    have B6 := Lib.hid (B5.out.trans (hb.mono B5.out.size))
    clear hb
    go_wp2_with fail
    refine (awake_edit _).mono ?_
    rintro e w7 ⟨rfl, hb⟩
    have B7 := Lib.hid (B6.out.trans (hb.mono B6.out.size))
    clear hb
    go_wp2
    go_ret
    exact ⟨rfl, B7.out⟩
  have S2 := Lib.hid hs2
  clear hs2
  by_cases hs3 : snd c y.size = 0
  case neg =>
    have g1 : (snd c y.size == 0) = false := by simpa using hs3
    have g2 : (snd c y.size != 0) = true := by simpa using hs3
    clear hs3
    go_enter Try.func12, Try.ntmps12
    go_wp2_with fail
    refine (light_any s A1 c1 a _ E1.out (by omega) (by omega) X1.out).mono ?_
    rintro e w1 ⟨rfl, hb⟩
    have B1 := Lib.hid hb
    rw [L1.out]
    clear hb
    go_wp2_with fail
    refine (light_any s A2 c2 b _ ((E2.out.below B1.out).more B1.out.size) (by omega) (by omega) X2.out).mono ?_
    rintro e w2 ⟨rfl, hb⟩
    have B2 := Lib.hid (B1.out.trans (hb.mono B1.out.size))
    rw [L2.out]
    clear hb
    go_wp2_with fail
    refine (light_any s A3 c3 c _ ((E3.out.below B2.out).more B2.out.size) (by omega) (by omega) X3.out).mono ?_
    rintro e w3 ⟨rfl, hb⟩
    have B3 := Lib.hid (B2.out.trans (hb.mono B2.out.size))
    rw [L3.out]
    clear hb
    go_wp2_with fail
    refine (P1.out _ ((E1.out.below B3.out).more B3.out.size)).mono ?_
    rintro e w4 ⟨rfl, hb⟩
    have B4 := Lib.hid (B3.out.trans (hb.mono B3.out.size))
    rw [S1.out]
    clear hb
    go_wp2_with fail
    refine (P2.out _ ((E2.out.below B4.out).more B4.out.size)).mono ?_
    rintro e w5 ⟨rfl, hb⟩
    have B5 := Lib.hid (B4.out.trans (hb.mono B4.out.size))
    rw [S2.out]
    clear hb
    go_wp2_with fail
    refine (P3.out _ ((E3.out.below B5.out).more B5.out.size)).mono ?_
    rintro e w6 ⟨rfl, hb⟩
    have B6 := Lib.hid (B5.out.trans (hb.mono B5.out.size))
    clear hb
    go_wp2_with fail
    refine (awake_edit _).mono ?_
    rintro e w7 ⟨rfl, hb⟩
    have B7 := Lib.hid (B6.out.trans (hb.mono B6.out.size))
    clear hb
    go_wp2
    go_ret
    exact ⟨rfl, B7.out⟩
  have S3 := Lib.hid hs3
  clear hs3
  have hx := Q1.out S1.out
  have hy := Q2.out S2.out
  have hz := Q3.out S3.out
  obtain ⟨gx, nx⟩ := apd_size s x a S1.out hx
  obtain ⟨gy, ny⟩ := apd_size x y b S2.out hy
  obtain ⟨gz, nz⟩ := apd_size y z c S3.out hz
  obtain ⟨ab, hab⟩ : ∃ ab, ab = cmpd a b s.size := ⟨_, rfl⟩
  obtain ⟨bc, hbc⟩ : ∃ bc, bc = cmpd b c x.size := ⟨_, rfl⟩
  obtain ⟨l, hl⟩ : ∃ l, l = cmpd ab c s.size := ⟨_, rfl⟩
  obtain ⟨r, hr⟩ : ∃ r, r = cmpd a bc s.size := ⟨_, rfl⟩
  have n1 : ab.length ≤ 302 := by have := len_cmpd a b s.size; rw [← hab] at this; omega
  have n2 : bc.length ≤ 302 := by have := len_cmpd b c x.size; rw [← hbc] at this; omega
  have n3 : l.length ≤ 604 := by have := len_cmpd ab c s.size; rw [← hl] at this; omega
  have n4 : r.length ≤ 604 := by have := len_cmpd a bc s.size; rw [← hr] at this; omega
  have t1 : tot ab ≤ tot a + tot b := by have := tot_cmpd a b s.size; rw [← hab] at this; exact this
  have t2 : tot bc ≤ tot b + tot c := by have := tot_cmpd b c x.size; rw [← hbc] at this; exact this
  have nab : ab.length + c.length ≤ 510 := by have := len_cmpd a b s.size; rw [← hab] at this; omega
  have nbc : a.length + bc.length ≤ 510 := by have := len_cmpd b c x.size; rw [← hbc] at this; omega
  obtain ⟨o1, o2⟩ := cmpd_ok s a b S1.out (by rw [← nx]; exact S2.out) (by omega)
  rw [← hab, ← hx] at o2
  rw [← hab] at o1
  have hy' : y = ⟨(apd s ab).toArray⟩ := by rw [o2]; exact hy
  obtain ⟨p1, p2⟩ := cmpd_ok x b c S2.out (by rw [← ny]; exact S3.out) (by omega)
  rw [← hbc, ← hy] at p2
  rw [← hbc] at p1
  have hz' : z = ⟨(apd x bc).toArray⟩ := by rw [p2]; exact hz
  obtain ⟨gab, nab'⟩ := apd_size s y ab o1 hy'
  obtain ⟨q1, q2⟩ := cmpd_ok s ab c o1 (by rw [← nab']; exact S3.out) (by omega)
  rw [← hl, ← hy'] at q2
  rw [← hl] at q1
  have hzl : z = ⟨(apd s l).toArray⟩ := by rw [q2]; exact hz
  obtain ⟨r1, r2⟩ := cmpd_ok s a bc S1.out (by rw [← nx]; exact p1) (by omega)
  rw [← hr, ← hx] at r2
  rw [← hr] at r1
  have hzr : z = ⟨(apd s r).toArray⟩ := by rw [r2]; exact hz'
  have K1 : Hid (snd b (s.size + grows a) = 0) := by unfold Hid; rw [gx]; exact S2.out
  have K2 : Hid (snd c (x.size + grows b) = 0) := by unfold Hid; rw [gy]; exact S3.out
  have K3 : Hid (snd c (s.size + grows ab) = 0) := by unfold Hid; rw [gab]; exact S3.out
  have K4 : Hid (snd bc (s.size + grows a) = 0) := by unfold Hid; rw [gx]; exact p1
  have J1 := Lib.hid hab
  have J2 := Lib.hid hbc
  have J3 := Lib.hid hl
  have J4 := Lib.hid hr
  have J5 := Lib.hid o1
  have J6 := Lib.hid q1
  have J7 := Lib.hid r1
  have J8 := Lib.hid hzl
  have J9 := Lib.hid hzr
  have hxs : x.size ≤ 140737488355328 := by omega
  have hzs : z.size ≤ 140737488355328 := by omega
  have t3 : tot ab + tot c ≤ 140737488355328 := by omega
  have t4 : tot a + tot bc ≤ 140737488355328 := by omega
  clear hx hy hz hab hbc hl hr o1 o2 p1 p2 q1 q2 r1 r2 hy' hz' hzl hzr gx nx gy ny gz nz gab nab' nab nbc
  go_enter Try.func12, Try.ntmps12
  go_wp2_with fail
  refine (light_any s A1 c1 a _ E1.out (by omega) (by omega) X1.out).mono ?_
  rintro e w1 ⟨rfl, hb⟩
  have B1 := Lib.hid hb
  rw [L1.out]
  clear hb
  go_wp2_with fail
  refine (light_any s A2 c2 b _ ((E2.out.below B1.out).more B1.out.size) (by omega) (by omega) X2.out).mono ?_
  rintro e w2 ⟨rfl, hb⟩
  have B2 := Lib.hid (B1.out.trans (hb.mono B1.out.size))
  rw [L2.out]
  clear hb
  go_wp2_with fail
  refine (light_any s A3 c3 c _ ((E3.out.below B2.out).more B2.out.size) (by omega) (by omega) X3.out).mono ?_
  rintro e w3 ⟨rfl, hb⟩
  have B3 := Lib.hid (B2.out.trans (hb.mono B2.out.size))
  rw [L3.out]
  clear hb
  go_wp2_with fail
  refine (P1.out _ ((E1.out.below B3.out).more B3.out.size)).mono ?_
  rintro e w4 ⟨rfl, hb⟩
  have B4 := Lib.hid (B3.out.trans (hb.mono B3.out.size))
  rw [S1.out]
  clear hb
  go_wp2_with fail
  refine (P2.out _ ((E2.out.below B4.out).more B4.out.size)).mono ?_
  rintro e w5 ⟨rfl, hb⟩
  have B5 := Lib.hid (B4.out.trans (hb.mono B4.out.size))
  rw [S2.out]
  clear hb
  go_wp2_with fail
  refine (P3.out _ ((E3.out.below B5.out).more B5.out.size)).mono ?_
  rintro e w6 ⟨rfl, hb⟩
  have B6 := Lib.hid (B5.out.trans (hb.mono B5.out.size))
  rw [S3.out]
  clear hb
  go_wp2_with fail
  refine (compose_is A1 A2 c1 c2 a b ab s.size _ (by omega) (by omega) ((E1.out.below B6.out).more B6.out.size) ((E2.out.below B6.out).more B6.out.size) S1.out (by omega) K1.out J1.out).mono ?_
  rintro e w7 ⟨A4, c4, rfl, hE, hb⟩
  have B7 := Lib.hid (B6.out.trans (hb.mono B6.out.size))
  have G1 := Lib.hid hE
  clear hE
  clear hb
  go_wp2_with fail
  refine (compose_is A2 A3 c2 c3 b c bc x.size _ (by omega) (by omega) ((E2.out.below B7.out).more B7.out.size) ((E3.out.below B7.out).more B7.out.size) S2.out (by omega) K2.out J2.out).mono ?_
  rintro e w8 ⟨A5, c5, rfl, hE, hb⟩
  have B8 := Lib.hid (B7.out.trans (hb.mono B7.out.size))
  have G2 := Lib.hid hE
  have hb8 := hb
  clear hE
  clear hb
  go_wp2_with fail
  refine (compose_is A4 A3 c4 c3 ab c l s.size _ (by omega) (by omega) ((G1.out.below hb8).more hb8.size) ((E3.out.below B8.out).more B8.out.size) J5.out t3 K3.out J3.out).mono ?_
  rintro e w9 ⟨A6, c6, rfl, hE, hb⟩
  have B9 := Lib.hid (B8.out.trans (hb.mono B8.out.size))
  have G3 := Lib.hid hE
  have hb9 := hb
  clear hE hb8
  clear hb
  go_wp2_with fail
  refine (compose_is A1 A5 c1 c5 a bc r s.size _ (by omega) (by omega) ((E1.out.below B9.out).more B9.out.size) ((G2.out.below hb9).more hb9.size) S1.out t4 K4.out J4.out).mono ?_
  rintro e w10 ⟨A7, c7, rfl, hE, hb⟩
  have B10 := Lib.hid (B9.out.trans (hb.mono B9.out.size))
  have G4 := Lib.hid hE
  have hb10 := hb
  clear hE hb9
  clear hb
  go_wp2_with fail
  refine (apply_is s z A6 c6 l _ ((G3.out.below hb10).more hb10.size) (by omega) J6.out J8.out hzs).mono ?_
  rintro e w11 ⟨rfl, hb⟩
  have B11 := Lib.hid (B10.out.trans (hb.mono B10.out.size))
  have hb11 := hb
  clear hb
  go_wp2_with fail
  refine (apply_is s z A7 c7 r _ ((G4.out.below hb11).more hb11.size) (by omega) J7.out J9.out hzs).mono ?_
  rintro e w12 ⟨rfl, hb⟩
  have B12 := Lib.hid (B11.out.trans (hb.mono B11.out.size))
  clear hb10 hb11
  clear hb
  go_wp2_with fail
  refine (awake_edit _).mono ?_
  rintro e w13 ⟨rfl, hb⟩
  have B13 := Lib.hid (B12.out.trans (hb.mono B12.out.size))
  clear hb
  go_wp2
  go_ret
  exact ⟨rfl, B13.out⟩
end Go.Proofs.Ytendbkbjmibchaa
