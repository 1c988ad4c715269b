import Derived.Deep.CutRange
import Derived.Deep.LoopGhost
import Derived.Test.YthjflofcgdfekaaGreatDoorMAJ
import Derived.Shelf.SlSortCmp.KitK
import Derived.Sort.LotA
import Derived.StillTailTactics
import Derived.Shelf.SlGeneric
import Derived.Lib.Bytealg
namespace Go.Proofs.YthjflofcgdfekaaGreatDoor
open Go.RowKit Go.Op
namespace Sc
open Vm
theorem Ok.item {s : St} (h : Ok s) (i : Int) : Ok { s with item := i } := ⟨h.len, h.means, h.here, h.win⟩
def FR (X : Wc) (w : World) (K : Nat → Prop) (hb : Nat) (lam : Int) (goal : St) (rest : St → St) (c M : Nat) (wr : World) : Prop :=
  ∃ (Ki : Nat → Prop) (si : St) (Ni : Nat), WS X wr Ki (some hb) si Ni ∧ Gx K w Ki wr ∧ Ok si ∧ si.lam = lam ∧ rest si = goal ∧ Ni + c ≤ M
theorem bind1_ok (h : Hi) {s : St} (ok : Ok s) (hL : 0 ≤ s.lam ∧ s.lam ≤ 1000000) : Goes s (bind1 h s) := by
  unfold bind1
  split
  · exact bind_ok _ _ _ ok hL
  · split
    · exact bind_ok _ _ _ ok hL
    · exact .refl ok
theorem WS.item {X : Wc} {w : World} {K : Nat → Prop} {hv : Option Nat} {s : St} {N : Nat} (h : WS X w K hv s N) (l : Int) : WS X (w.setCell ⟨X.b, 7, none⟩ (.int .i64 l)) K hv { s with item := l } N ∧ Gx K w K (w.setCell ⟨X.b, 7, none⟩ (.int .i64 l)) := by
  obtain ⟨a, b, c, d, e, f, h⟩ := h
  exact ⟨⟨a, b, c, d, e, f, (h.put_item l).1⟩, (h.put_item l).2⟩
set_option maxHeartbeats 16000000 in
set_option maxRecDepth 100000 in
theorem file_any {X : Wc} (k : Tr) (w : World) (K : Nat → Prop) (hb : Nat) (s : St) (N : Nat) (A : Option Addr) (cap : Nat) (hs : WS X w K (some hb) s N) (ok : Ok s) (hL : 0 ≤ s.lam) (hL1 : s.lam + k.cnt ≤ 1000000) (hN : N + 8 * k.cnt ≤ 100000000) (ht : TV w X.B k A cap) (hB : X.B ≤ w.heap.size) :
    Calls Tryz.prog 107 #[X.p, .slice A k.len cap] w (Ans X w K (some hb) (items 0 k (binds 0 k s)) (N + 8 * k.cnt)) := by
  have HS := Lib.hid hs
  have HT := Lib.hid ht
  have HK := Lib.hid (tk_all X k)
  obtain ⟨goal, hgoal⟩ : ∃ goal, goal = items 0 k (binds 0 k s) := ⟨_, rfl⟩
  obtain ⟨lam, hlam⟩ : ∃ lam, lam = s.lam := ⟨_, rfl⟩
  rw [← hgoal]
  rw [← hlam] at hL hL1
  have HR0 : Hid (FR X w K hb lam goal (fun s => items 0 k (binds 0 (k.drop 0) s)) (8 * k.cnt) (N + 8 * k.cnt) w) := ⟨K, s, N, hs, Gx.refl K w, ok, hlam.symm, by rw [Tr.drop_zero]; exact hgoal.symm, Nat.le_refl _⟩
  obtain ⟨n0, hn0⟩ : ∃ n0, n0 = k.len := ⟨_, rfl⟩
  have HN0 := Lib.hid hn0
  have HNN := Lib.hid hN
  have HLL := Lib.hid hL1
  have hlc := Tr.len_cnt k
  have HC := Lib.hid hlc
  have hnl : n0 ≤ 1000000 := by omega
  rw [← hn0] at hlc ⊢
  clear hs ht hn0 hN hL1 ok hgoal hlam
  obtain ⟨b, mb, B⟩ := X
  simp only at *
  go_enter Tryz.func107, Tryz.ntmps107
  go_wp2_with fail
  go_loopg [10] (n0 + 1) (fun kx s10 wr => ∃ (i : Nat), s10 = .int .i64 i ∧ n0 - i ≤ kx ∧ i ≤ n0 ∧ Hid (FR ⟨b, mb, B⟩ w K hb lam goal (fun s => items 0 k (binds i (k.drop i) s)) (8 * k.cnt - 4 * i) (N + 8 * k.cnt) wr))
  case atStart => exact ⟨0, rfl, by omega, by omega, HR0.out⟩
  case round =>
    obtain ⟨i, rfl, hkx, hin, HR⟩ := hrel
    obtain ⟨Ki, si, Ni, hws, hgx, hok, hlm, hnd, hNi⟩ := HR.out
    by_cases hi : i < n0
    · have hil : (i : Int) < (n0 : Int) := by omega
      obtain ⟨⟨kd, fro, til, word, at_⟩, kk, e⟩ := Tr.drop_cons k i (by rw [← HN0.out]; exact hi)
      have hold := hgx.old HS.out.lt hB
      obtain ⟨hword, g, o, A2, c2, rfl, hg, hkk, c0, c1, c2', c3, c4, c5⟩ := TV.nth (HT.out.keep hold) e
      simp only at c0 c1 c2' c3 c4 hword
      obtain ⟨j, hj⟩ : ∃ j, j = i + 1 := ⟨_, rfl⟩
      have e1 : IntKind.i64.wrap ((i : Int) + 1) = (j : Int) := by rw [IntKind.wrap_i64]; omega
      have hBw : B ≤ wr.heap.size := Nat.le_trans hB hgx.size
      have hcn : (k.drop i).cnt = kk.cnt + (k.drop j).cnt + 1 := by rw [hj, e, Tr.cnt]
      have hdc := Tr.drop_cnt k i
      obtain ⟨nk, hnk⟩ : ∃ nk, nk = kk.len := ⟨_, rfl⟩
      have HW1 := (hws.alloc (.cells #[.int .i64 kd, .int .i64 fro, .int .i64 til, .string word, .int .i64 at_, .slice A2 nk c2] 38)).item (i : Int)
      have HWS := Lib.hid HW1.1
      have HGX := Lib.hid ((hgx.trans (Gx.alloc Ki wr (.cells #[.int .i64 kd, .int .i64 fro, .int .i64 til, .string word, .int .i64 at_, .slice A2 nk c2] 38))).trans HW1.2)
      obtain ⟨q1, q2, q3, q4, q5, q6, hwr⟩ := hws.alloc (.cells #[.int .i64 kd, .int .i64 fro, .int .i64 til, .string word, .int .i64 at_, .slice A2 nk c2] 38)
      have yc := hwr.row.cell
      have yt := hwr.row.thaw
      have hbw : wr.heap.size ≠ b := fun e2 => by have := (hws.lt b (by obtain ⟨_, _, _, _, _, _, h⟩ := hws; exact h.kb)).2; omega
      have y5 := ((RowB.new wr 38 #[.int .i64 kd, .int .i64 fro, .int .i64 til, .string word, .int .i64 at_, .slice A2 nk c2]).far (p := ⟨b, 7, none⟩) hbw (.int .i64 i)).cell
      have HKK : Hid (TV ((wr.alloc (.cells #[.int .i64 kd, .int .i64 fro, .int .i64 til, .string word, .int .i64 at_, .slice A2 nk c2] 38)).setCell ⟨b, 7, none⟩ (.int .i64 i)) B kk A2 c2) := hkk.keep fun g hg => (Below.heap_setCell _ ⟨b, 7, none⟩ _ g (fun e2 => by have h1 : B ≤ b := (hwr.lt _ hwr.kb).1; have hg' : g < B := hg; have e3 : g = b := e2; omega)).trans (Below.heap_alloc _ _ g (by have hg' : g < B := hg; omega))
      have HOK := Lib.hid hok
      have HLM := Lib.hid hlm
      have HNi := Lib.hid hNi
      have HJ := Lib.hid hj
      have HE := Lib.hid e
      have HWD := Lib.hid hword
      have HBW := Lib.hid hBw
      have HNK := Lib.hid hnk
      have HCN : Hid ((k.drop i).cnt = kk.cnt + (k.drop j).cnt + 1 ∧ (k.drop i).cnt ≤ k.cnt) := ⟨hcn, hdc⟩
      have HND : Hid (items 0 k (binds j (k.drop j) (bind1 ⟨kd, fro, til, word, at_⟩ { si with item := (i : Int) })) = goal) := by
        have hnd2 : items 0 k (binds i (k.drop i) si) = goal := hnd
        rw [← hnd2, e, hj]
        rfl
      simp only [] at yc yt
      rw [← hnk] at c5
      clear hws hgx hok hlm hnd hNi hj e hold hword hkk hBw hcn hdc hwr HW1 hbw HR hnk
      by_cases k2 : kd = 2
      · subst k2
        obtain ⟨v1, v2, v3, v4, nm, nh, hw1⟩ := HWS.out
        have CB := Lib.hid (bind_any hw1 (HOK.out.item _) ⟨2, fro, til, word, at_⟩ A2 nk c2 1 (by have := HNi.out; have := HNN.out; omega) HWD.out)
        have hgo := Lib.hid (bind_ok at_ word 1 (HOK.out.item (i : Int)) (by show 0 ≤ si.lam ∧ si.lam ≤ 1000000; rw [HLM.out]; have := HLL.out; omega))
        simp only [hvv] at CB
        clear hw1
        go_wp2_with fail
        refine CB.out.mono ?_
        rintro e2 w2 ⟨rfl, K2, hws2, g2⟩
        have HR2 : Hid (FR ⟨b, mb, B⟩ w K hb lam goal (fun s => items 0 k (binds j (k.drop j) s)) (8 * k.cnt - 4 * j) (N + 8 * k.cnt) w2) := ⟨K2, _, _, hws2, HGX.out.trans g2, hgo.out.ok, hgo.out.lam.trans HLM.out, by have := HND.out; simp only [bind1] at this; first | exact this | simpa using this, by have := HNi.out; have := HJ.out; have := HC.out; have := HN0.out; omega⟩
        clear hws2 g2 CB HWS HGX HOK HLM HND HNi hgo y5 yc yt
        go_wp2_with fail
        have hj := HJ.out
        go_roundg (n0 - j)
        case measure => omega
        case rel => exact ⟨j, rfl, by omega, by omega, HR2.out⟩
      · have k2' : (kd == 2) = false := by rw [beq_eq_false_iff_ne]; exact k2
        by_cases k3 : kd = 3
        · subst k3
          obtain ⟨v1, v2, v3, v4, nm, nh, hw1⟩ := HWS.out
          have CB := Lib.hid (bind_any hw1 (HOK.out.item _) ⟨3, fro, til, word, at_⟩ A2 nk c2 2 (by have := HNi.out; have := HNN.out; omega) HWD.out)
          have hgo := Lib.hid (bind_ok at_ word 2 (HOK.out.item (i : Int)) (by show 0 ≤ si.lam ∧ si.lam ≤ 1000000; rw [HLM.out]; have := HLL.out; omega))
          simp only [hvv] at CB
          clear hw1
          go_wp2_with fail
          refine CB.out.mono ?_
          rintro e2 w2 ⟨rfl, K2, hws2, g2⟩
          have HR2 : Hid (FR ⟨b, mb, B⟩ w K hb lam goal (fun s => items 0 k (binds j (k.drop j) s)) (8 * k.cnt - 4 * j) (N + 8 * k.cnt) w2) := ⟨K2, _, _, hws2, HGX.out.trans g2, hgo.out.ok, hgo.out.lam.trans HLM.out, by have := HND.out; simp only [bind1] at this; first | exact this | simpa using this, by have := HNi.out; have := HJ.out; have := HC.out; have := HN0.out; omega⟩
          clear hws2 g2 CB HWS HGX HOK HLM HND HNi hgo y5 yc yt
          go_wp2_with fail
          have hj := HJ.out
          go_roundg (n0 - j)
          case measure => omega
          case rel => exact ⟨j, rfl, by omega, by omega, HR2.out⟩
        · have k3' : (kd == 3) = false := by rw [beq_eq_false_iff_ne]; exact k3
          have HR2 : Hid (FR ⟨b, mb, B⟩ w K hb lam goal (fun s => items 0 k (binds j (k.drop j) s)) (8 * k.cnt - 4 * j) (N + 8 * k.cnt) ((wr.alloc (.cells #[.int .i64 kd, .int .i64 fro, .int .i64 til, .string word, .int .i64 at_, .slice A2 nk c2] 38)).setCell ⟨b, 7, none⟩ (.int .i64 i))) :=
            ⟨Ki, { si with item := (i : Int) }, Ni, HWS.out, HGX.out, HOK.out.item _, HLM.out, by have := HND.out; simp only [bind1, if_neg k2, if_neg k3] at this; exact this, by have := HNi.out; have := HJ.out; omega⟩
          clear HWS HGX HOK HLM HND HNi
          go_wp2_with fail
          have hj := HJ.out
          go_roundg (n0 - j)
          case measure => omega
          case rel => exact ⟨j, rfl, by omega, by omega, HR2.out⟩
    · have hi2 : i = n0 := by omega
      have hd1 : decide ((i : Int) < (n0 : Int)) = false := decide_eq_false (by omega)
      rw [Tr.drop_len k i (by rw [← HN0.out]; omega)] at hnd
      simp only [binds] at hnd
      have HR0 : Hid (FR ⟨b, mb, B⟩ w K hb lam goal (fun s => items 0 (k.drop 0) s) (4 * (k.drop 0).cnt) (N + 8 * k.cnt) wr) := ⟨Ki, si, Ni, hws, hgx, hok, hlm, by rw [Tr.drop_zero]; exact hnd, by rw [Tr.drop_zero]; have := HC.out; have := HN0.out; omega⟩
      clear hnd hNi hws hgx hok hlm hi2 HR
      go_wp2_with fail
      go_loopg [34] (n0 + 1) (fun kx s34 wr => ∃ (i : Nat), s34 = .int .i64 i ∧ n0 - i ≤ kx ∧ i ≤ n0 ∧ Hid (FR ⟨b, mb, B⟩ w K hb lam goal (fun s => items i (k.drop i) s) (4 * (k.drop i).cnt) (N + 8 * k.cnt) wr))
      case atStart => exact ⟨0, rfl, by omega, by omega, HR0.out⟩
      case round =>
        obtain ⟨i, rfl, hkx, hin, HR⟩ := hrel
        obtain ⟨Ki, si, Ni, hws, hgx, hok, hlm, hnd, hNi⟩ := HR.out
        by_cases hi : i < n0
        · have hil : (i : Int) < (n0 : Int) := by omega
          obtain ⟨⟨kd, fro, til, word, at_⟩, kk, e⟩ := Tr.drop_cons k i (by rw [← HN0.out]; exact hi)
          have hold := hgx.old HS.out.lt hB
          obtain ⟨hword, g, o, A2, c2, rfl, hg, hkk, c0, c1, c2', c3, c4, c5⟩ := TV.nth (HT.out.keep hold) e
          simp only at c0 c1 c2' c3 c4 hword
          obtain ⟨j, hj⟩ : ∃ j, j = i + 1 := ⟨_, rfl⟩
          have e1 : IntKind.i64.wrap ((i : Int) + 1) = (j : Int) := by rw [IntKind.wrap_i64]; omega
          have hBw : B ≤ wr.heap.size := Nat.le_trans hB hgx.size
          have hcn : (k.drop i).cnt = kk.cnt + (k.drop j).cnt + 1 := by rw [hj, e, Tr.cnt]
          have hdc := Tr.drop_cnt k i
          obtain ⟨nk, hnk⟩ : ∃ nk, nk = kk.len := ⟨_, rfl⟩
          have HW1 := (hws.alloc (.cells #[.int .i64 kd, .int .i64 fro, .int .i64 til, .string word, .int .i64 at_, .slice A2 nk c2] 38)).item (i : Int)
          have HWS := Lib.hid HW1.1
          have HGX := Lib.hid ((hgx.trans (Gx.alloc Ki wr (.cells #[.int .i64 kd, .int .i64 fro, .int .i64 til, .string word, .int .i64 at_, .slice A2 nk c2] 38))).trans HW1.2)
          obtain ⟨q1, q2, q3, q4, q5, q6, hwr⟩ := hws.alloc (.cells #[.int .i64 kd, .int .i64 fro, .int .i64 til, .string word, .int .i64 at_, .slice A2 nk c2] 38)
          have yc := hwr.row.cell
          have yt := hwr.row.thaw
          have hbw : wr.heap.size ≠ b := fun e2 => by have := (hws.lt b (by obtain ⟨_, _, _, _, _, _, h⟩ := hws; exact h.kb)).2; omega
          have y5 := ((RowB.new wr 38 #[.int .i64 kd, .int .i64 fro, .int .i64 til, .string word, .int .i64 at_, .slice A2 nk c2]).far (p := ⟨b, 7, none⟩) hbw (.int .i64 i)).cell
          have HKK : Hid (TV ((wr.alloc (.cells #[.int .i64 kd, .int .i64 fro, .int .i64 til, .string word, .int .i64 at_, .slice A2 nk c2] 38)).setCell ⟨b, 7, none⟩ (.int .i64 i)) B kk A2 c2) := hkk.keep fun g hg => (Below.heap_setCell _ ⟨b, 7, none⟩ _ g (fun e2 => by have h1 : B ≤ b := (hwr.lt _ hwr.kb).1; have hg' : g < B := hg; have e3 : g = b := e2; omega)).trans (Below.heap_alloc _ _ g (by have hg' : g < B := hg; omega))
          have HOK := Lib.hid hok
          have HLM := Lib.hid hlm
          have HNi := Lib.hid hNi
          have HJ := Lib.hid hj
          have HE := Lib.hid e
          have HWD := Lib.hid hword
          have HBW := Lib.hid hBw
          have HNK := Lib.hid hnk
          have HCN : Hid ((k.drop i).cnt = kk.cnt + (k.drop j).cnt + 1 ∧ (k.drop i).cnt ≤ k.cnt) := ⟨hcn, hdc⟩
          have HND : Hid (items j (k.drop j) (node ⟨kd, fro, til, word, at_⟩ (nodes kk) { si with item := (i : Int) }) = goal) := by
            have hnd2 : items i (k.drop i) si = goal := hnd
            rw [← hnd2, e, hj]
            rfl
          simp only [] at yc yt
          rw [← hnk] at c5
          clear hws hgx hok hlm hnd hNi hj e hold hword hkk hBw hcn hdc hwr HW1 hbw HR hnk
          have CC := Lib.hid (HK.out i ⟨kd, fro, til, word, at_⟩ kk _ HE.out ((wr.alloc (.cells #[.int .i64 kd, .int .i64 fro, .int .i64 til, .string word, .int .i64 at_, .slice A2 nk c2] 38)).setCell ⟨b, 7, none⟩ (.int .i64 i)) Ki hb { si with item := (i : Int) } Ni A2 c2 HWS.out (HOK.out.item _) (by show 0 ≤ si.lam; rw [HLM.out]; exact hL) (by show si.lam + _ ≤ _; rw [HLM.out]; have := HLL.out; have := HCN.out; omega) (by have := HNN.out; have := HNi.out; have := HCN.out; omega) HKK.out HWD.out (by have := HBW.out; simpa [World.setCell] using Nat.le_succ_of_le this))
          have hgo := Lib.hid (node_ok ⟨kd, fro, til, word, at_⟩ (nodes kk) kk.cnt (fun s a b c => nodes_ok kk s a b c) { si with item := (i : Int) } (HOK.out.item _) (by show 0 ≤ si.lam; rw [HLM.out]; exact hL) (by show si.lam + _ ≤ _; rw [HLM.out]; have := HLL.out; have := HCN.out; omega))
          rw [← HNK.out] at CC
          simp only [hvv] at CC
          go_wp2_with fail
          refine CC.out.mono ?_
          rintro e2 w2 ⟨rfl, K2, hws2, g2⟩
          have HR2 : Hid (FR ⟨b, mb, B⟩ w K hb lam goal (fun s => items j (k.drop j) s) (4 * (k.drop j).cnt) (N + 8 * k.cnt) w2) := ⟨K2, _, _, hws2, HGX.out.trans g2, hgo.out.ok, hgo.out.lam.trans HLM.out, HND.out, by have := HNi.out; have := HCN.out; omega⟩
          clear hws2 g2 CC HWS HGX HOK HLM HND HNi hgo y5 yc yt
          go_wp2_with fail
          have hj := HJ.out
          go_roundg (n0 - j)
          case measure => omega
          case rel => exact ⟨j, rfl, by omega, by omega, HR2.out⟩
        · have hi2 : i = n0 := by omega
          have hd1 : decide ((i : Int) < (n0 : Int)) = false := decide_eq_false (by omega)
          rw [Tr.drop_len k i (by rw [← HN0.out]; omega)] at hnd hNi
          simp only [items, Tr.cnt] at hnd hNi
          have FE : Hid (Ans ⟨b, mb, B⟩ w K (some hb) goal (N + 8 * k.cnt) (.returned (.tuple #[])) wr) := ⟨rfl, Ki, by rw [← hnd]; exact hws.mono (by omega), hgx⟩
          clear hnd hNi hws hgx hok hlm hi2 HR
          go_wp2_with fail
          go_end0
          exact FE.out
end Sc
end Go.Proofs.YthjflofcgdfekaaGreatDoor
namespace Go.Proofs.YthjflofcgdfekaaGreatDoor
open Go.RowKit Go.Sort
namespace Sb
structure Be where
  a : Int
  c : Int
  t : Nat
instance : Inhabited Be := ⟨⟨0, 0, 0⟩⟩
def enc2 (e : Be) : List Value := [.int .i64 e.a, .int .i64 e.c]
def sgn (a b : Int) : Int := if a < b then -1 else if b < a then 1 else 0
def cf (x y : Be) : Int := sgn x.a y.a
theorem ri {k : IntKind} {a b : Int} (h : a = b) : Ending.returned (.int k a) = .returned (.int k b) := by rw [h]
theorem isNaN_any (a : Int) (w : World) : Calls Tryz.prog 101 #[.int .i64 a] w fun e w' => e = .returned (.bool false) ∧ w' = w := by
  go_enter Tryz.func101, Tryz.ntmps101
  go_wp2
  go_ret
  exact ⟨by simp, rfl⟩
set_option maxHeartbeats 1000000 in
theorem compare_any (a b : Int) (w : World) : Calls Tryz.prog 65 #[.int .i64 a, .int .i64 b] w fun e w' => e = .returned (.int .i64 (sgn a b)) ∧ w' = w := by
  go_enter Tryz.func65, Tryz.ntmps65
  go_wp2_with (go_at_call 101; refine (isNaN_any _ _).mono ?_; rintro e w' ⟨rfl, rfl⟩)
  all_goals
    go_ret
    refine ⟨ri ?_, rfl⟩
    unfold sgn
    (repeat' split) <;> omega
set_option maxHeartbeats 2000000 in
set_option maxRecDepth 100000 in
theorem lt23_any (x y : Be) (w : World) : Calls Tryz.prog 109 #[.agg #[.int .i64 x.a, .int .i64 x.c], .agg #[.int .i64 y.a, .int .i64 y.c]] w fun e w' => e = .returned (.int .i64 (cf x y)) ∧ ∃ q os, w' = Go.Sort.grow (w.drewN q) os := by
  obtain ⟨r, hr⟩ : ∃ r, r = cf x y := ⟨_, rfl⟩
  rw [← hr]
  unfold cf at hr
  go_enter Tryz.func109, Tryz.ntmps109
  go_wp2_with (go_at_call 65; refine (compare_any _ _ _).mono ?_; rintro e w' ⟨rfl, rfl⟩)
  rw [← hr]
  go_ret
  refine ⟨by first | rfl | simp, 0, #[.cells #[.int .i64 x.a, .int .i64 x.c] 174] ++ #[.cells #[.int .i64 y.a, .int .i64 y.c] 174], ?_⟩
  rw [alloc_eq_grow, alloc_eq_grow, grow_grow]
  rfl
end Sb
end Go.Proofs.YthjflofcgdfekaaGreatDoor
namespace Go.Proofs.YthjflofcgdfekaaGreatDoor
open Go.RowKit Go.Sort Go.Proofs Go.Shelf
namespace Sb
def ins20_ren : Go.Shelf.Ren := ⟨fun | 20 => 179 | n => n, fun | 24 => 174 | 22 => 48 | 3 => 3 | 25 => 193 | 4 => 4 | 0 => 0 | n => n, fun | n => n⟩
theorem ins20 : Go.Proofs.SlLaysF0.n20 Tryz.prog ins20_ren := {
  mixed := by kernel_rfl
  f20 := ⟨Tryz.f179.name, by kernel_rfl, Tryz.func179.trans (congrArg some (by kernel_rfl))⟩
  t0 := Tryz.underlying0
  a0 := Tryz.isAgg0
  z0 := Tryz.sizeOf0
  v0 := Tryz.zeroValue0
  t3 := Tryz.underlying3
  a3 := Tryz.isAgg3
  z3 := Tryz.sizeOf3
  v3 := Tryz.zeroValue3
  t4 := Tryz.underlying4
  a4 := Tryz.isAgg4
  z4 := Tryz.sizeOf4
  v4 := Tryz.zeroValue4
  t22 := Tryz.underlying48
  a22 := Tryz.isAgg48
  z22 := Tryz.sizeOf48
  v22 := Tryz.zeroValue48
  t25 := Tryz.underlying193
  a25 := Tryz.isAgg193
  z25 := Tryz.sizeOf193
  v25 := Tryz.zeroValue193 }
theorem enter109 : ∀ args w, (callFunc 109 args).run Tryz.prog w = .ok (.enter 109 args) w := enters_of Tryz.func109 (by kernel_rfl) rfl
theorem cmpLays23 (blk off size : Nat) (w : World) : CmpLays Tryz.prog 109 #[] enc2 2 cf blk off size w :=
  fun _ _ _ _ x y => lt23_any x y _
theorem enc2_len (x : Be) : (enc2 x).length = 2 := rfl
theorem enc2_one (x : Be) : ∀ v ∈ enc2 x, v.oneCell' = true := by
  intro v hv
  simp [enc2] at hv
  rcases hv with rfl | rfl <;> rfl
theorem ltcf (x y : Be) : ltOf cf x y = decide (x.a < y.a) := by
  unfold ltOf cf sgn
  rw [Bool.eq_iff_iff, decide_eq_true_iff, decide_eq_true_iff]
  (repeat' split) <;> omega
theorem swocf : SWO (ltOf cf) where
  irrefl x := by rw [ltcf]; simp
  trans x y z h1 h2 := by
    rw [ltcf] at *
    simp only [decide_eq_true_iff] at *
    omega
  ntrans x y z h1 h2 := by
    rw [ltcf] at *
    simp only [decide_eq_false_iff_not] at *
    omega
def LT (x y : Be) : Bool := decide (x.a < y.a ∨ (x.a = y.a ∧ x.t < y.t))
theorem swoLT : SWO LT where
  irrefl x := by unfold LT; simp
  trans x y z h1 h2 := by
    unfold LT at *
    simp only [decide_eq_true_iff] at *
    omega
  ntrans x y z h1 h2 := by
    unfold LT at *
    simp only [decide_eq_false_iff_not] at *
    omega
abbrev at_ (d : Array Be) : Nat → Be := fun x => d[x]!
def Tied (d : Array Be) : Prop := ∀ i j, i < j → j < d.size → (at_ d i).a = (at_ d j).a → (at_ d i).t < (at_ d j).t
theorem cmp_yes {x y : Be} (h : cf x y < 0) : LT x y = true := by
  have := ltcf x y
  unfold ltOf at this
  unfold LT
  simp only [decide_eq_true_iff]
  rw [Bool.eq_iff_iff, decide_eq_true_iff, decide_eq_true_iff] at this
  exact .inl (this.1 h)
theorem cmp_no {d : Array Be} (hT : Tied d) {i j : Nat} (hij : i < j) (hj : j < d.size) (h : decide (cf d[j]! d[i]! < 0) = false) : LT (at_ d j) (at_ d i) = false := by
  have := ltcf d[j]! d[i]!
  unfold ltOf at this
  rw [this] at h
  have := hT i j hij hj
  unfold LT at_ at *
  simp only [decide_eq_false_iff_not] at *
  omega
theorem tied_lt {d : Array Be} (hT : Tied d) {i j : Nat} (hij : i < j) (hj : j < d.size) (h : LT (at_ d j) (at_ d i) = true) : (at_ d j).a < (at_ d i).a := by
  have := hT i j hij hj
  unfold LT at h
  simp only [decide_eq_true_iff] at h
  omega
theorem swp_tied {d : Array Be} (hT : Tied d) {j : Nat} (hj : j + 1 < d.size) (h : (at_ d (j + 1)).a < (at_ d j).a) : Tied (swp d (j + 1) j) := by
  intro x y hxy hy he
  have hs : (swp d (j + 1) j).size = d.size := by simp [swp]
  rw [hs] at hy
  have e : ∀ k, at_ (swp d (j + 1) j) k = if k = j then at_ d (j + 1) else if k = j + 1 then at_ d j else at_ d k := fun k => swp_get d hj (by omega) k
  rw [e, e] at he ⊢
  by_cases x1 : x = j
  · subst x1
    rw [if_pos rfl] at he ⊢
    by_cases y1 : y = x + 1
    · subst y1
      rw [if_neg (by omega), if_pos rfl] at he
      omega
    · rw [if_neg (by omega), if_neg y1] at he ⊢
      exact hT _ _ (by omega) hy he
  · rw [if_neg x1] at he ⊢
    by_cases x2 : x = j + 1
    · subst x2
      rw [if_pos rfl, if_neg (by omega), if_neg (by omega)] at he
      rw [if_pos rfl, if_neg (by omega), if_neg (by omega)]
      exact hT _ _ (by omega) hy he
    · rw [if_neg x2] at he ⊢
      by_cases y1 : y = j
      · subst y1
        rw [if_pos rfl] at he ⊢
        exact hT _ _ (by omega) hj he
      · rw [if_neg y1] at he ⊢
        by_cases y2 : y = j + 1
        · subst y2
          rw [if_pos rfl] at he ⊢
          exact hT _ _ (by omega) (by omega) he
        · rw [if_neg y2] at he ⊢
          exact hT _ _ hxy hy he
theorem insInner_tied (a : Nat) : ∀ (j : Nat) (d : Array Be), j < d.size → Tied d → Tied (insInner (ltOf cf) a j d) ∧ (insInner (ltOf cf) a j d).size = d.size
  | 0, d, _, h => ⟨h, rfl⟩
  | j + 1, d, hj, h => by
    rw [insInner]
    split
    · rename_i hc
      simp only [Bool.and_eq_true, decide_eq_true_eq] at hc
      have h1 := hc.2
      rw [ltcf, decide_eq_true_iff] at h1
      have hs : (swp d (j + 1) j).size = d.size := by simp [swp]
      obtain ⟨r1, r2⟩ := insInner_tied a j (swp d (j + 1) j) (by rw [hs]; omega) (swp_tied h hj h1)
      exact ⟨r1, r2.trans hs⟩
    · exact ⟨h, rfl⟩
theorem insOuter_tied (a b : Nat) : ∀ (n i : Nat) (d : Array Be), b - i ≤ n → b ≤ d.size → Tied d → Tied (insOuter (ltOf cf) a b i d)
  | 0, i, d, hn, hb, h => by
    rw [insOuter, if_neg (by omega)]
    exact h
  | n + 1, i, d, hn, hb, h => by
    rw [insOuter]
    split
    · obtain ⟨r1, r2⟩ := insInner_tied a i d (by omega) h
      exact insOuter_tied a b n (i + 1) _ (by omega) (by rw [r2]; exact hb) r1
    · exact h
end Sb
end Go.Proofs.YthjflofcgdfekaaGreatDoor
namespace Go.Proofs.YthjflofcgdfekaaGreatDoor
open Go.RowKit Go.Sort Go.Proofs
namespace Od
structure Ord3 {α : Type} (f : α → α → Int) : Prop where
  neg : ∀ x y, f y x = - f x y
  tr : ∀ x y z, f x y ≤ 0 → f y z ≤ 0 → f x z ≤ 0 ∧ (f x z = 0 → f x y = 0 ∧ f y z = 0)
theorem cb_neg : ∀ a b : List UInt8, Lib.compareBytes b a = - Lib.compareBytes a b
  | [], [] => rfl
  | [], _ :: _ => rfl
  | _ :: _, [] => rfl
  | a :: x, b :: y => by
    rw [Lib.compareBytes, Lib.compareBytes]
    by_cases h : a < b
    · have h' : ¬ b < a := fun g => by rw [UInt8.lt_iff_toNat_lt] at *; omega
      rw [if_neg h', if_pos h, if_pos h]
      rfl
    · by_cases h' : b < a
      · rw [if_pos h', if_neg h, if_pos h']
      · rw [if_neg h', if_neg h, if_neg h, if_neg h']
        exact cb_neg x y
theorem cb_tr : ∀ a b c : List UInt8, Lib.compareBytes a b ≤ 0 → Lib.compareBytes b c ≤ 0 → Lib.compareBytes a c ≤ 0 ∧ (Lib.compareBytes a c = 0 → Lib.compareBytes a b = 0 ∧ Lib.compareBytes b c = 0)
  | [], [], [], _, _ => ⟨by simp [Lib.compareBytes], fun _ => ⟨rfl, rfl⟩⟩
  | [], [], _ :: _, _, _ => ⟨by simp [Lib.compareBytes], fun h => by simp [Lib.compareBytes] at h⟩
  | [], _ :: _, [], _, h => by simp [Lib.compareBytes] at h
  | [], _ :: _, _ :: _, _, _ => ⟨by simp [Lib.compareBytes], fun h => by simp [Lib.compareBytes] at h⟩
  | _ :: _, [], _, h, _ => by simp [Lib.compareBytes] at h
  | _ :: _, _ :: _, [], _, h => by simp [Lib.compareBytes] at h
  | a :: x, b :: y, c :: z, h1, h2 => by
    have ih := cb_tr x y z
    simp only [Lib.compareBytes] at *
    simp only [UInt8.lt_iff_toNat_lt] at *
    generalize a.toNat = p at *
    generalize b.toNat = q at *
    generalize c.toNat = r at *
    by_cases e1 : p < q
    · rw [if_pos e1] at *
      by_cases e2 : q < r
      · rw [if_pos (by omega)]
        exact ⟨by decide, fun h => by omega⟩
      · rw [if_neg e2] at h2 ⊢
        by_cases e3 : r < q
        · rw [if_pos e3] at h2; omega
        · rw [if_pos (by omega)]
          exact ⟨by decide, fun h => by omega⟩
    · rw [if_neg e1] at h1 ⊢
      by_cases e4 : q < p
      · rw [if_pos e4] at h1; omega
      · rw [if_neg e4] at h1 ⊢
        obtain rfl : p = q := by omega
        by_cases e2 : p < r
        · rw [if_pos e2]
          exact ⟨by decide, fun h => by omega⟩
        · rw [if_neg e2] at h2 ⊢
          by_cases e3 : r < p
          · rw [if_pos e3] at h2; omega
          · rw [if_neg e3] at h2 ⊢
            rw [if_neg e2, if_neg e3]
            exact ih h1 h2
def cmpB (a b : ByteArray) : Int := Lib.compareBytes a.data.toList b.data.toList
theorem ord_bytes : Ord3 cmpB := ⟨fun _ _ => cb_neg _ _, fun _ _ _ => cb_tr _ _ _⟩
theorem ord_int : Ord3 Sb.sgn := ⟨fun x y => by unfold Sb.sgn; (repeat' split) <;> omega, fun x y z => by unfold Sb.sgn; (repeat' split) <;> omega⟩
def thenI (a b : Int) : Int := if a = 0 then b else a
theorem ord_then {α : Type} {f g : α → α → Int} (hf : Ord3 f) (hg : Ord3 g) : Ord3 fun x y => thenI (f x y) (g x y) :=
  ⟨fun x y => by
    have := hf.neg x y
    have := hg.neg x y
    show thenI _ _ = - thenI _ _
    unfold thenI
    (repeat' split) <;> omega,
   fun x y z h1 h2 => by
    have a := hf.tr x y z
    have b := hg.tr x y z
    unfold thenI at *
    (repeat' split at h1) <;> (repeat' split at h2) <;> (repeat' split) <;> omega⟩
theorem ord_map {α β : Type} {f : β → β → Int} (k : α → β) (hf : Ord3 f) : Ord3 fun x y => f (k x) (k y) := ⟨fun _ _ => hf.neg _ _, fun _ _ _ => hf.tr _ _ _⟩
theorem cb_eq : ∀ a b : List UInt8, Lib.compareBytes a b = 0 → a = b
  | [], [], _ => rfl
  | [], _ :: _, h => by simp [Lib.compareBytes] at h
  | _ :: _, [], h => by simp [Lib.compareBytes] at h
  | a :: x, b :: y, h => by
    rw [Lib.compareBytes] at h
    by_cases h1 : a < b
    · rw [if_pos h1] at h; omega
    · by_cases h2 : b < a
      · rw [if_neg h1, if_pos h2] at h; omega
      · rw [if_neg h1, if_neg h2] at h
        rw [cb_eq x y h, UInt8.le_antisymm (UInt8.not_lt.1 h2) (UInt8.not_lt.1 h1)]
theorem cmpB_eq {a b : ByteArray} (h : cmpB a b = 0) : a = b := by
  have := cb_eq _ _ h
  cases a; cases b
  simp only at this
  congr 1
  exact Array.toList_inj.1 this
theorem cb_self : ∀ a : List UInt8, Lib.compareBytes a a = 0
  | [] => rfl
  | a :: x => by rw [Lib.compareBytes, if_neg (UInt8.lt_irrefl a), if_neg (UInt8.lt_irrefl a)]; exact cb_self x
theorem cmpB_self (a : ByteArray) : cmpB a a = 0 := cb_self _
theorem cb_less : ∀ a b : List UInt8, decide (Lib.compareBytes a b < 0) = Op.bytesLess a b
  | [], [] => by simp [Lib.compareBytes, Op.bytesLess]
  | [], _ :: _ => by simp [Lib.compareBytes, Op.bytesLess]
  | _ :: _, [] => by simp [Lib.compareBytes, Op.bytesLess]
  | a :: x, b :: y => by
    rw [Lib.compareBytes, Op.bytesLess]
    by_cases h : a < b
    · simp [h]
    · by_cases h' : b < a
      · have : a ≠ b := fun e => by subst e; exact h h'
        simp [h, h', this]
      · have : a = b := UInt8.le_antisymm (UInt8.not_lt.1 h') (UInt8.not_lt.1 h)
        subst this
        simp [cb_less x y]
end Od
end Go.Proofs.YthjflofcgdfekaaGreatDoor
