import Derived.Deep.CutRange
import Derived.Deep.LoopGhost
import Derived.Test.YthjflofcgdfekaaGreatDoorMAI
namespace Go.Proofs.YthjflofcgdfekaaGreatDoor
open Go.RowKit Go.Op
namespace Sc
def NodeC (X : Wc) (h : Hi) (kk : Tr) : Prop := ∀ (w : World) (K : Nat → Prop) (hb : Nat) (s : St) (N : Nat) (A : Option Addr) (cap : Nat), WS X w K (some hb) s N → Ok s → 0 ≤ s.lam → s.lam + (kk.cnt + 1 : Nat) ≤ 1000000 → N + 4 * (kk.cnt + 1) ≤ 100000000 → TV w X.B kk A cap → h.word.size ≤ maxLen → X.B ≤ w.heap.size →
  Calls Tryz.prog 140 #[X.p, hvv h A kk.len cap] w (Ans X w K (some hb) (node h (nodes kk) s) (N + 4 * (kk.cnt + 1)))
def TK (X : Wc) (k : Tr) : Prop := ∀ i h kk r, k.drop i = .cons h kk r → NodeC X h kk
theorem WS.lt {X : Wc} {w : World} {K : Nat → Prop} {hv : Option Nat} {s : St} {N : Nat} (h : WS X w K hv s N) : ∀ g, K g → X.B ≤ g ∧ g < w.heap.size := by
  obtain ⟨_, _, _, _, _, _, h⟩ := h
  exact h.lt
theorem WS.alloc {X : Wc} {w : World} {K : Nat → Prop} {hv : Option Nat} {s : St} {N : Nat} (h : WS X w K hv s N) (o : Obj) : WS X (w.alloc o) K hv s N := by
  obtain ⟨a, b, c, d, e, f, h⟩ := h
  exact ⟨a, b, c, d, e, f, h.alloc o⟩
theorem WS.mono {X : Wc} {w : World} {K : Nat → Prop} {hv : Option Nat} {s : St} {N N' : Nat} (h : WS X w K hv s N) (hN : N ≤ N') : WS X w K hv s N' := by
  obtain ⟨a, b, c, d, e, f, h⟩ := h
  exact ⟨a, b, c, d, e, f, h.mono hN⟩
structure KidsR (X : Wc) (w : World) (K : Nat → Prop) (hb : Nat) (k : Tr) (s : St) (N : Nat) (i : Nat) (wr : World) : Prop where
  ex : ∃ (Ki : Nat → Prop) (si : St) (Ni : Nat), WS X wr Ki (some hb) si Ni ∧ Gx K w Ki wr ∧ Ok si ∧ si.lam = s.lam ∧ nodes (k.drop i) si = nodes k s ∧ Ni + 4 * (k.drop i).cnt ≤ N + 4 * k.cnt
set_option maxHeartbeats 8000000 in
set_option maxRecDepth 100000 in
theorem kids_any {X : Wc} (h : Hi) (k : Tr) (hk : TK X k) (w : World) (K : Nat → Prop) (hb : Nat) (s : St) (N : Nat) (A : Option Addr) (cap : Nat) (hs : WS X w K (some hb) s N) (ok : Ok s) (hL : 0 ≤ s.lam) (hL1 : s.lam + k.cnt ≤ 1000000) (hN : N + 4 * k.cnt ≤ 100000000) (ht : TV w X.B k A cap) (hB : X.B ≤ w.heap.size) :
    Calls Tryz.prog 176 #[X.p, hvv h A k.len cap] w (Ans X w K (some hb) (nodes k s) (N + 4 * k.cnt)) := by
  have HS := Lib.hid hs
  have HT := Lib.hid ht
  have HK := Lib.hid hk
  have HR0 : Hid (KidsR X w K hb k s N 0 (w.alloc (.cells (hcc h A k.len cap) 38))) := ⟨⟨K, s, N, hs.alloc _, Gx.alloc K w _, ok, rfl, by rw [Tr.drop_zero], by rw [Tr.drop_zero]; exact Nat.le_refl _⟩⟩
  obtain ⟨n0, hn0⟩ : ∃ n0, n0 = k.len := ⟨_, rfl⟩
  have HN0 := Lib.hid hn0
  have HNN := Lib.hid hN
  have HLL := Lib.hid hL1
  have hnl : n0 ≤ 1000000 := by have := Tr.len_cnt k; omega
  rw [← hn0] at HR0 ⊢
  clear hs ht hk hn0 hN hL1 ok
  obtain ⟨b, mb, B⟩ := X
  simp only [hcc] at *
  go_enter Tryz.func176, Tryz.ntmps176
  go_wp2_with fail
  go_loopg [9] (n0 + 1) (fun kx s9 wr => ∃ (i : Nat), s9 = .int .i64 i ∧ n0 - i ≤ kx ∧ i ≤ n0 ∧ Hid (KidsR ⟨b, mb, B⟩ w K hb k s N i wr))
  case atStart => exact ⟨0, rfl, by omega, by omega, HR0.out⟩
  case round =>
    obtain ⟨i, rfl, hkx, hin, HR⟩ := hrel
    obtain ⟨⟨Ki, si, Ni, hws, hgx, hok, hlm, hnd, hNi⟩⟩ := HR.out
    by_cases hi : i < n0
    · have hil : (i : Int) < (n0 : Int) := by omega
      obtain ⟨h', kk, e⟩ := Tr.drop_cons k i (by rw [← HN0.out]; exact hi)
      have hold := hgx.old HS.out.lt hB
      obtain ⟨hword, g, o, A2, c2, rfl, hg, hkk, c0, c1, c2', c3, c4, c5⟩ := TV.nth (HT.out.keep hold) e
      have hcn : (k.drop i).cnt = kk.cnt + (k.drop (i + 1)).cnt + 1 := by rw [e, Tr.cnt]
      have hdc := Tr.drop_cnt k i
      obtain ⟨j, hj⟩ : ∃ j, j = i + 1 := ⟨_, rfl⟩
      have e1 : IntKind.i64.wrap ((i : Int) + 1) = (j : Int) := by rw [IntKind.wrap_i64]; omega
      have hBw : B ≤ wr.heap.size := Nat.le_trans hB hgx.size
      have CC := Lib.hid (HK.out i h' kk _ e (wr.alloc (.cells (hcc h' A2 kk.len c2) 38)) Ki hb si Ni A2 c2 (hws.alloc _) hok (by rw [hlm]; exact hL) (by rw [hlm]; have := HLL.out; omega) (by have := HNN.out; omega) (hkk.keep (Old.of ((Below.refl _ _).alloc hBw _))) hword (by simp; omega))
      have HG0 := Lib.hid (hgx.trans (Gx.alloc Ki wr (.cells (hcc h' A2 kk.len c2) 38)))
      have hgo := Lib.hid (node_ok h' (nodes kk) kk.cnt (fun s a b c => nodes_ok kk s a b c) si hok (by rw [hlm]; exact hL) (by rw [hlm]; have := HLL.out; omega))
      have hnd2 : Hid (nodes (k.drop j) (node h' (nodes kk) si) = nodes k s) := by rw [← hnd, e, nodes, hj]; rfl
      have HM := Lib.hid hlm
      have HNi : Hid (Ni + 4 * (kk.cnt + 1) + 4 * (k.drop j).cnt ≤ N + 4 * k.cnt) := by rw [hj]; unfold Hid; omega
      have HJ := Lib.hid hj
      obtain ⟨nk, hnk⟩ : ∃ nk, nk = kk.len := ⟨_, rfl⟩
      obtain ⟨st, hst⟩ : ∃ st, st = node h' (nodes kk) si := ⟨_, rfl⟩
      obtain ⟨N2, hN2⟩ : ∃ N2, N2 = Ni + 4 * (kk.cnt + 1) := ⟨_, rfl⟩
      simp only [hcc, hvv] at CC HG0
      rw [← hnk] at c5 CC HG0
      rw [← hst] at CC hgo hnd2
      rw [← hN2] at CC HNi
      clear e hkk hcn hj hws hgx hok hlm hnd hNi hst hnk hN2 HR hdc hold hword
      go_wp2_with fail
      refine CC.out.mono ?_
      rintro e2 w2 ⟨rfl, K2, hws2, g2⟩
      have HR2 : Hid (KidsR ⟨b, mb, B⟩ w K hb k s N j w2) := ⟨⟨K2, st, N2, hws2, HG0.out.trans g2, hgo.out.ok, hgo.out.lam.trans HM.out, hnd2.out, HNi.out⟩⟩
      clear hws2 g2 CC HG0 hgo hnd2 HM HNi
      go_wp2_with fail
      have hj := HJ.out
      go_roundg (n0 - j)
      case measure => omega
      case rel => exact ⟨j, rfl, by omega, by omega, HR2.out⟩
    · have hi2 : i = n0 := by omega
      have hd1 : decide ((i : Int) < (n0 : Int)) = false := decide_eq_false (by omega)
      rw [Tr.drop_len k i (by rw [← HN0.out]; omega)] at hnd hNi
      simp only [nodes, Tr.cnt] at hnd hNi
      have FE : Hid (Ans ⟨b, mb, B⟩ w K (some hb) (nodes k s) (N + 4 * k.cnt) (.returned (.tuple #[])) wr) := ⟨rfl, Ki, by rw [← hnd]; exact hws.mono (by omega), hgx⟩
      clear hnd hNi hws hgx hok hlm hi2 HR
      go_wp2_with fail
      go_end0
      exact FE.out
set_option maxHeartbeats 4000000 in
set_option maxRecDepth 100000 in
theorem clo64_any {X : Wc} {h : Hi} {A : Option Addr} {n cap : Nat} {w : World} {R : Ending → World → Prop} (p0 p1 : Nat) (r0 : RowB w p0 185 #[X.p]) (r1 : RowB w p1 38 (hcc h A n cap)) (hc : Calls Tryz.prog 176 #[X.p, hvv h A n cap] w fun e w' => e = .returned (.tuple #[]) ∧ R e w') :
    Calls Tryz.prog 175 #[.pointer (some ⟨p0, 0, none⟩), .pointer (some ⟨p1, 0, none⟩)] w R := by
  have y0 := r0.cell
  have y1 := r1.cell
  have CC := Lib.hid hc
  obtain ⟨b, mb, B⟩ := X
  simp only [hcc, hvv] at *
  clear r0 r1 hc
  go_enter Tryz.func175, Tryz.ntmps175
  go_wp2_with fail
  refine CC.out.mono ?_
  rintro e w2 ⟨rfl, hR⟩
  go_wp2_with fail
  go_end0
  exact hR
set_option maxHeartbeats 4000000 in
set_option maxRecDepth 100000 in
theorem clo66_any {X : Wc} {h : Hi} {A : Option Addr} {n cap : Nat} {w : World} {R : Ending → World → Prop} (p0 p1 : Nat) (r0 : RowB w p0 185 #[X.p]) (r1 : RowB w p1 38 (hcc h A n cap)) (hc : Calls Tryz.prog 176 #[X.p, hvv h A n cap] w fun e w' => e = .returned (.tuple #[]) ∧ R e w') :
    Calls Tryz.prog 177 #[.pointer (some ⟨p0, 0, none⟩), .pointer (some ⟨p1, 0, none⟩)] w R := by
  have y0 := r0.cell
  have y1 := r1.cell
  have CC := Lib.hid hc
  obtain ⟨b, mb, B⟩ := X
  simp only [hcc, hvv] at *
  clear r0 r1 hc
  go_enter Tryz.func177, Tryz.ntmps177
  go_wp2_with fail
  refine CC.out.mono ?_
  rintro e w2 ⟨rfl, hR⟩
  go_wp2_with fail
  go_end0
  exact hR
end Sc
end Go.Proofs.YthjflofcgdfekaaGreatDoor
namespace Go.Proofs.YthjflofcgdfekaaGreatDoor
open Go.RowKit Go.Op
namespace Sc
open Vm
theorem Ans.from {X : Wc} {w w1 : World} {K : Nat → Prop} {hv : Option Nat} {t : St} {N N' : Nat} {e : Ending} {w' : World} (h : Ans X w1 K hv t N e w') (g : Gx K w K w1) (hN : N ≤ N') : Ans X w K hv t N' e w' := by
  obtain ⟨h1, K', h2, h3⟩ := h
  exact ⟨h1, K', h2.mono hN, g.trans h3⟩
theorem enterF (c : Nat) (caps : Array Value) (hf : c = 175 ∨ c = 177 ∨ c = 106) (w : World) : (callFunc c caps).run Tryz.prog w = .ok (.enter c caps) w := by
  rcases hf with rfl | rfl | rfl
  · simp [callFunc, Tryz.func175, Tryz.f175]
  · simp [callFunc, Tryz.func177, Tryz.f177]
  · simp [callFunc, Tryz.func106, Tryz.f106]
set_option maxHeartbeats 8000000 in
set_option maxRecDepth 100000 in
theorem node_any {X : Wc} (h : Hi) (k : Tr) (hk : TK X k) : NodeC X h k := by
  intro w K hb s N A cap hs ok hL hL1 hN ht hword hB
  obtain ⟨kd, fro, til, word, at_⟩ := h
  obtain ⟨nk, hnk⟩ : ∃ nk, nk = k.len := ⟨_, rfl⟩
  have HS := Lib.hid hs
  have OK := Lib.hid ok
  have G1 := Lib.hid ((Gx.alloc K w (.cells #[X.p] 185)).trans (Gx.alloc K _ (.cells #[.int .i64 kd, .int .i64 fro, .int .i64 til, .string word, .int .i64 at_, .slice A nk cap] 38)))
  have H1 := Lib.hid ((hs.alloc (.cells #[X.p] 185)).alloc (.cells #[.int .i64 kd, .int .i64 fro, .int .i64 til, .string word, .int .i64 at_, .slice A nk cap] 38))
  have R0 := Lib.hid ((RowB.new w 185 #[X.p]).alloc (.cells #[.int .i64 kd, .int .i64 fro, .int .i64 til, .string word, .int .i64 at_, .slice A nk cap] 38))
  have R1 := Lib.hid (RowB.new (w.alloc (.cells #[X.p] 185)) 38 #[.int .i64 kd, .int .i64 fro, .int .i64 til, .string word, .int .i64 at_, .slice A nk cap])
  have E1 : (w.alloc (.cells #[X.p] 185)).heap.size = w.heap.size + 1 := by simp
  rw [E1] at R1
  clear E1
  have K0 : Hid (¬ K w.heap.size) := fun hk => by have := (hs.lt _ hk).2; omega
  have K1 : Hid (¬ K (w.heap.size + 1)) := fun hk => by have := (hs.lt _ hk).2; omega
  have HT := Lib.hid ht
  have HO : Hid (∀ w' K', Gx K w K' w' → Old X.B w w') := fun w' K' g => g.old hs.lt hB
  have HOK : Hid (∀ s', Ok s' → 0 ≤ s'.lam → s'.lam + k.cnt ≤ 1000000 → Goes s' (nodes k s')) := fun s' a b c => nodes_ok k s' a b c
  have HKD : Hid (∀ (w : World) (K : Nat → Prop) (hb : Nat) (s : St) (N : Nat), WS X w K (some hb) s N → Ok s → 0 ≤ s.lam → s.lam + k.cnt ≤ 1000000 → N + 4 * k.cnt ≤ 100000000 → TV w X.B k A cap → X.B ≤ w.heap.size →
      Calls Tryz.prog 176 #[X.p, hvv ⟨kd, fro, til, word, at_⟩ A nk cap] w (Ans X w K (some hb) (nodes k s) (N + 4 * k.cnt))) := fun w K hb s N a b c d e f g => by rw [hnk]; exact kids_any _ k hk w K hb s N A cap a b c d e f g
  obtain ⟨b, mb, B⟩ := X
  simp only [hvv] at *
  rw [← hnk]
  have HN := Lib.hid hN
  have HL1 := Lib.hid hL1
  clear hs ok ht hk hnk hN hL1
  by_cases h2 : kd = 2
  · subst h2
    go_enter Tryz.func140, Tryz.ntmps140
    go_wp2_with fail
    go_end0
    exact ⟨rfl, K, by unfold node; rw [if_pos rfl]; exact H1.out.mono (by omega), G1.out⟩
  have b2 : (kd == 2) = false := by rw [beq_eq_false_iff_ne]; exact h2
  by_cases h3 : kd = 3
  · subst h3
    obtain ⟨v1, v2, v3, v4, nm, nh, h1⟩ := H1.out
    have HTH : Thru ⟨b, mb, B⟩ ((w.alloc (.cells #[Wc.p ⟨b, mb, B⟩] 185)).alloc (.cells #[.int .i64 3, .int .i64 fro, .int .i64 til, .string word, .int .i64 at_, .slice A nk cap] 38)) K N (4 * k.cnt) s 0 (nodes k) 175 #[.pointer (some ⟨w.heap.size, 0, none⟩), .pointer (some ⟨w.heap.size + 1, 0, none⟩)] := fun hb2 N1 w1 Kx a1 a2 a3 a4 a5 => by
      have q0 : RowB w1 w.heap.size 185 _ := (a4 _ R0.out.lt K0.out).trans R0.out
      have q1 : RowB w1 (w.heap.size + 1) 38 _ := (a4 _ R1.out.lt K1.out).trans R1.out
      refine clo64_any (h := ⟨3, fro, til, word, at_⟩) _ _ q0 q1 ((HKD.out w1 Kx hb2 (enter 0 s) N1 a1 (enter_ok 0 OK.out) (by show 0 ≤ s.lam + 0; omega) (by show s.lam + 0 + k.cnt ≤ 1000000; have := HL1.out; omega) (by have := HN.out; omega) (HT.out.keep ?_) ?_).mono fun e w' h => ⟨h.1, h⟩)
      · exact fun g hg => (a4 g (by simp; omega) (fun hk => by have := (HS.out.lt g hk).1; simp only at this; omega)).trans (HO.out _ _ G1.out g hg)
      · have h2 := G1.out.size; exact Nat.le_trans (Nat.le_trans hB h2) a3
    have hgo := HOK.out (enter 0 s) (enter_ok 0 OK.out) (by show 0 ≤ s.lam + 0; omega) (by show s.lam + 0 + k.cnt ≤ 1000000; have := HL1.out; omega)
    have CT := Lib.hid (through_any h1 0 (by decide) ⟨hL, by have := HL1.out; omega⟩ 175 _ (nodes k) (4 * k.cnt) HTH (enterF _ _ (by decide)) hgo.lam (by have := HN.out; omega))
    clear HTH hgo h1
    have hmf : ∀ (fn : Fn) (first cap : Array Value) (w : World), (Instr.makeFunc fn first cap).run Tryz.prog w = .ok (.func fn first cap) w := fun _ _ _ _ => rfl
    go_enter Tryz.func140, Tryz.ntmps140
    go_wp2_with fail
    refine CT.out.mono ?_
    intro e w2 hA
    obtain ⟨rfl, hA2⟩ := hA
    have HA := Lib.hid hA2
    clear hA2 CT
    go_wp2_with fail
    go_end0
    exact Ans.from (w1 := ((w.alloc (.cells #[Wc.p ⟨b, mb, B⟩] 185)).alloc (.cells #[.int .i64 3, .int .i64 fro, .int .i64 til, .string word, .int .i64 at_, .slice A nk cap] 38))) ⟨rfl, by unfold node; rw [if_neg (by simp), if_pos (.inl rfl)]; exact HA.out⟩ G1.out (by omega)
  have b3 : (kd == 3) = false := by rw [beq_eq_false_iff_ne]; exact h3
  by_cases h6 : kd = 6
  · subst h6
    obtain ⟨v1, v2, v3, v4, nm, nh, h1⟩ := H1.out
    have HTH : Thru ⟨b, mb, B⟩ ((w.alloc (.cells #[Wc.p ⟨b, mb, B⟩] 185)).alloc (.cells #[.int .i64 6, .int .i64 fro, .int .i64 til, .string word, .int .i64 at_, .slice A nk cap] 38)) K N (4 * k.cnt) s 0 (nodes k) 175 #[.pointer (some ⟨w.heap.size, 0, none⟩), .pointer (some ⟨w.heap.size + 1, 0, none⟩)] := fun hb2 N1 w1 Kx a1 a2 a3 a4 a5 => by
      have q0 : RowB w1 w.heap.size 185 _ := (a4 _ R0.out.lt K0.out).trans R0.out
      have q1 : RowB w1 (w.heap.size + 1) 38 _ := (a4 _ R1.out.lt K1.out).trans R1.out
      refine clo64_any (h := ⟨6, fro, til, word, at_⟩) _ _ q0 q1 ((HKD.out w1 Kx hb2 (enter 0 s) N1 a1 (enter_ok 0 OK.out) (by show 0 ≤ s.lam + 0; omega) (by show s.lam + 0 + k.cnt ≤ 1000000; have := HL1.out; omega) (by have := HN.out; omega) (HT.out.keep ?_) ?_).mono fun e w' h => ⟨h.1, h⟩)
      · exact fun g hg => (a4 g (by simp; omega) (fun hk => by have := (HS.out.lt g hk).1; simp only at this; omega)).trans (HO.out _ _ G1.out g hg)
      · have h2 := G1.out.size; exact Nat.le_trans (Nat.le_trans hB h2) a3
    have hgo := HOK.out (enter 0 s) (enter_ok 0 OK.out) (by show 0 ≤ s.lam + 0; omega) (by show s.lam + 0 + k.cnt ≤ 1000000; have := HL1.out; omega)
    have CT := Lib.hid (through_any h1 0 (by decide) ⟨hL, by have := HL1.out; omega⟩ 175 _ (nodes k) (4 * k.cnt) HTH (enterF _ _ (by decide)) hgo.lam (by have := HN.out; omega))
    clear HTH hgo h1
    have hmf : ∀ (fn : Fn) (first cap : Array Value) (w : World), (Instr.makeFunc fn first cap).run Tryz.prog w = .ok (.func fn first cap) w := fun _ _ _ _ => rfl
    go_enter Tryz.func140, Tryz.ntmps140
    go_wp2_with fail
    refine CT.out.mono ?_
    intro e w2 hA
    obtain ⟨rfl, hA2⟩ := hA
    have HA := Lib.hid hA2
    clear hA2 CT
    go_wp2_with fail
    go_end0
    exact Ans.from (w1 := ((w.alloc (.cells #[Wc.p ⟨b, mb, B⟩] 185)).alloc (.cells #[.int .i64 6, .int .i64 fro, .int .i64 til, .string word, .int .i64 at_, .slice A nk cap] 38))) ⟨rfl, by unfold node; rw [if_neg (by simp), if_pos (.inr rfl)]; exact HA.out⟩ G1.out (by omega)
  have b6 : (kd == 6) = false := by rw [beq_eq_false_iff_ne]; exact h6
  by_cases h28 : kd = 28
  · subst h28
    obtain ⟨v1, v2, v3, v4, nm, nh, h1⟩ := H1.out
    have HTH : Thru ⟨b, mb, B⟩ ((w.alloc (.cells #[Wc.p ⟨b, mb, B⟩] 185)).alloc (.cells #[.int .i64 28, .int .i64 fro, .int .i64 til, .string word, .int .i64 at_, .slice A nk cap] 38)) K N (4 * k.cnt) s 1 (nodes k) 177 #[.pointer (some ⟨w.heap.size, 0, none⟩), .pointer (some ⟨w.heap.size + 1, 0, none⟩)] := fun hb2 N1 w1 Kx a1 a2 a3 a4 a5 => by
      have q0 : RowB w1 w.heap.size 185 _ := (a4 _ R0.out.lt K0.out).trans R0.out
      have q1 : RowB w1 (w.heap.size + 1) 38 _ := (a4 _ R1.out.lt K1.out).trans R1.out
      refine clo66_any (h := ⟨28, fro, til, word, at_⟩) _ _ q0 q1 ((HKD.out w1 Kx hb2 (enter 1 s) N1 a1 (enter_ok 1 OK.out) (by show 0 ≤ s.lam + 1; omega) (by show s.lam + 1 + k.cnt ≤ 1000000; have := HL1.out; omega) (by have := HN.out; omega) (HT.out.keep ?_) ?_).mono fun e w' h => ⟨h.1, h⟩)
      · exact fun g hg => (a4 g (by simp; omega) (fun hk => by have := (HS.out.lt g hk).1; simp only at this; omega)).trans (HO.out _ _ G1.out g hg)
      · have h2 := G1.out.size; exact Nat.le_trans (Nat.le_trans hB h2) a3
    have hgo := HOK.out (enter 1 s) (enter_ok 1 OK.out) (by show 0 ≤ s.lam + 1; omega) (by show s.lam + 1 + k.cnt ≤ 1000000; have := HL1.out; omega)
    have CT := Lib.hid (through_any h1 1 (by decide) ⟨hL, by have := HL1.out; omega⟩ 177 _ (nodes k) (4 * k.cnt) HTH (enterF _ _ (by decide)) hgo.lam (by have := HN.out; omega))
    clear HTH hgo h1
    have hmf : ∀ (fn : Fn) (first cap : Array Value) (w : World), (Instr.makeFunc fn first cap).run Tryz.prog w = .ok (.func fn first cap) w := fun _ _ _ _ => rfl
    go_enter Tryz.func140, Tryz.ntmps140
    go_wp2_with fail
    refine CT.out.mono ?_
    intro e w2 hA
    obtain ⟨rfl, hA2⟩ := hA
    have HA := Lib.hid hA2
    clear hA2 CT
    go_wp2_with fail
    go_end0
    exact Ans.from (w1 := ((w.alloc (.cells #[Wc.p ⟨b, mb, B⟩] 185)).alloc (.cells #[.int .i64 28, .int .i64 fro, .int .i64 til, .string word, .int .i64 at_, .slice A nk cap] 38))) ⟨rfl, by unfold node; rw [if_neg (by simp), if_neg (by simp), if_pos rfl]; exact HA.out⟩ G1.out (by omega)
  have b28 : (kd == 28) = false := by rw [beq_eq_false_iff_ne]; exact h28
  by_cases h5 : kd = 5
  · subst h5
    obtain ⟨v1, v2, v3, v4, nm, nh, h1⟩ := H1.out
    have CT := Lib.hid (bind_any h1 OK.out ⟨5, fro, til, word, at_⟩ A nk cap 3 (by have := HN.out; omega) hword)
    clear h1
    simp only [hvv] at CT
    go_enter Tryz.func140, Tryz.ntmps140
    go_wp2_with fail
    refine CT.out.mono ?_
    intro e w2 hA
    obtain ⟨rfl, hA2⟩ := hA
    have HA := Lib.hid hA2
    clear hA2 CT
    go_wp2_with fail
    go_end0
    exact Ans.from (w1 := ((w.alloc (.cells #[Wc.p ⟨b, mb, B⟩] 185)).alloc (.cells #[.int .i64 5, .int .i64 fro, .int .i64 til, .string word, .int .i64 at_, .slice A nk cap] 38))) ⟨rfl, by unfold node; rw [if_neg (by simp), if_neg (by simp), if_neg (by simp), if_pos rfl]; exact HA.out⟩ G1.out (by omega)
  have b5 : (kd == 5) = false := by rw [beq_eq_false_iff_ne]; exact h5
  by_cases h7 : kd = 7
  · subst h7
    have CT := Lib.hid (HKD.out ((w.alloc (.cells #[Wc.p ⟨b, mb, B⟩] 185)).alloc (.cells #[.int .i64 7, .int .i64 fro, .int .i64 til, .string word, .int .i64 at_, .slice A nk cap] 38)) K hb s N H1.out OK.out hL (by have := HL1.out; omega) (by have := HN.out; omega) (HT.out.keep (HO.out _ _ G1.out)) (by have h2 := G1.out.size; omega))
    have hgo := Lib.hid (HOK.out s OK.out hL (by have := HL1.out; omega))
    go_enter Tryz.func140, Tryz.ntmps140
    go_wp2_with fail
    refine CT.out.mono ?_
    rintro e w2 ⟨rfl, K2, ⟨v1, v2, v3, v4, nm, nh, h2'⟩, g2⟩
    have q0 := g2.row R0.out K0.out
    have q1 := g2.row R1.out K1.out
    have CB := Lib.hid (bind_any h2' hgo.out.ok ⟨7, fro, til, word, at_⟩ A nk cap 4 (by have := HN.out; omega) hword)
    have G2 := Lib.hid (G1.out.trans g2)
    have y0 := q0.cell
    have y1 := q1.cell
    clear h2' g2 q0 q1 CT
    simp only [hvv] at CB
    go_wp2_with fail
    refine CB.out.mono ?_
    intro e w3 hA
    obtain ⟨rfl, K3, hA1, hA2⟩ := hA
    have HA := Lib.hid hA1
    have HA2 := Lib.hid hA2
    clear hA1 hA2 CB y0 y1
    go_wp2_with fail
    go_end0
    refine ⟨rfl, K3, ?_, G2.out.trans HA2.out⟩
    unfold node
    rw [if_neg (by simp), if_neg (by simp), if_neg (by simp), if_neg (by simp), if_pos rfl]
    exact HA.out.mono (by omega)
  have b7 : (kd == 7) = false := by rw [beq_eq_false_iff_ne]; exact h7
  by_cases h8 : kd = 8
  · subst h8
    obtain ⟨v1, v2, v3, v4, nm, nh, h1⟩ := H1.out
    have CT := Lib.hid (mention_any h1 OK.out ⟨hL, by have := HL1.out; omega⟩ ⟨8, fro, til, word, at_⟩ A nk cap true (by have := HN.out; omega) hword)
    clear h1
    simp only [hvv] at CT
    have hgo := Lib.hid (mention_ok at_ word true OK.out)
    go_enter Tryz.func140, Tryz.ntmps140
    go_wp2_with fail
    refine CT.out.mono ?_
    rintro e w2 ⟨rfl, K2, hws2, g2⟩
    have q0 := g2.row R0.out K0.out
    have q1 := g2.row R1.out K1.out
    have G2 := Lib.hid (G1.out.trans g2)
    have CB := Lib.hid (HKD.out w2 K2 hb (mention at_ word true s) (N + 2) hws2 hgo.out.ok (by rw [hgo.out.lam]; exact hL) (by rw [hgo.out.lam]; have := HL1.out; omega) (by have := HN.out; omega) (HT.out.keep (HO.out _ _ G2.out)) (by have h2 := G2.out.size; omega))
    have y0 := q0.cell
    have y1 := q1.cell
    clear hws2 g2 q0 q1 CT
    go_wp2_with fail
    refine CB.out.mono ?_
    intro e w3 hA
    obtain ⟨rfl, K3, hA1, hA2⟩ := hA
    have HA := Lib.hid hA1
    have HA2 := Lib.hid hA2
    clear hA1 hA2 CB y0 y1
    go_wp2_with fail
    go_end0
    refine ⟨rfl, K3, ?_, G2.out.trans HA2.out⟩
    unfold node
    rw [if_neg (by simp), if_neg (by simp), if_neg (by simp), if_neg (by simp), if_neg (by simp), if_pos rfl]
    exact HA.out.mono (by omega)
  have b8 : (kd == 8) = false := by rw [beq_eq_false_iff_ne]; exact h8
  by_cases h23 : kd = 23
  · subst h23
    obtain ⟨v1, v2, v3, v4, nm, nh, h1⟩ := H1.out
    have CT := Lib.hid (mention_any h1 OK.out ⟨hL, by have := HL1.out; omega⟩ ⟨23, fro, til, word, at_⟩ A nk cap false (by have := HN.out; omega) hword)
    clear h1
    simp only [hvv] at CT
    go_enter Tryz.func140, Tryz.ntmps140
    go_wp2_with fail
    refine CT.out.mono ?_
    intro e w2 hA
    obtain ⟨rfl, hA2⟩ := hA
    have HA := Lib.hid hA2
    clear hA2 CT
    go_wp2_with fail
    go_end0
    exact Ans.from (w1 := ((w.alloc (.cells #[Wc.p ⟨b, mb, B⟩] 185)).alloc (.cells #[.int .i64 23, .int .i64 fro, .int .i64 til, .string word, .int .i64 at_, .slice A nk cap] 38))) ⟨rfl, by unfold node; rw [if_neg (by simp), if_neg (by simp), if_neg (by simp), if_neg (by simp), if_neg (by simp), if_neg (by simp), if_pos rfl]; exact HA.out⟩ G1.out (by omega)
  have b23 : (kd == 23) = false := by rw [beq_eq_false_iff_ne]; exact h23
  have CT := Lib.hid (HKD.out ((w.alloc (.cells #[Wc.p ⟨b, mb, B⟩] 185)).alloc (.cells #[.int .i64 kd, .int .i64 fro, .int .i64 til, .string word, .int .i64 at_, .slice A nk cap] 38)) K hb s N H1.out OK.out hL (by have := HL1.out; omega) (by have := HN.out; omega) (HT.out.keep (HO.out _ _ G1.out)) (by have h2 := G1.out.size; omega))
  go_enter Tryz.func140, Tryz.ntmps140
  go_wp2_with fail
  refine CT.out.mono ?_
  intro e w2 hA
  obtain ⟨rfl, hA2⟩ := hA
  have HA := Lib.hid hA2
  clear hA2 CT
  go_wp2_with fail
  go_end0
  exact Ans.from (w1 := ((w.alloc (.cells #[Wc.p ⟨b, mb, B⟩] 185)).alloc (.cells #[.int .i64 kd, .int .i64 fro, .int .i64 til, .string word, .int .i64 at_, .slice A nk cap] 38))) ⟨rfl, by unfold node; rw [if_neg h2, if_neg (by simp only [not_or]; exact ⟨h3, h6⟩), if_neg h28, if_neg h5, if_neg h7, if_neg h8, if_neg h23]; exact HA.out⟩ G1.out (by omega)
theorem tk_all (X : Wc) : ∀ k : Tr, TK X k
  | .nil => fun i h kk r e => by rw [Tr.drop_nil] at e; cases e
  | .cons h' k' r' => fun i => match i with
    | 0 => fun h kk r e => by
      rw [Tr.drop] at e
      injection e with e1 e2 e3
      subst e1 e2 e3
      exact node_any h' k' (tk_all X k')
    | i + 1 => fun h kk r e => by
      rw [Tr.drop] at e
      exact tk_all X r' i h kk r e
end Sc
end Go.Proofs.YthjflofcgdfekaaGreatDoor
