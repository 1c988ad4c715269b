import Derived.Test.YthjflofcgdfekaaGreatDoorMBP
import Derived.BigQuiet
import Derived.Deep.LoopGhost
import Derived.Test.YthjflofcgdfekaaGreatDoorMAQ
import Derived.Lib.QuietBelow
namespace Go.Proofs.YthjflofcgdfekaaGreatDoor
open Go.RowKit Go.Op
namespace Sd
open Sc Vm Od Og
open Sb (RowAt sgn)
def cd (x y : Dg) : Int := thenI (cmpB x.1 y.1) (thenI (sgn x.2.1 y.2.1) (sgn x.2.2 y.2.2))
theorem ordD : Ord3 cd := ord_then (ord_map (fun x : Dg => x.1) ord_bytes) (ord_then (ord_map (fun x : Dg => x.2.1) ord_int) (ord_map (fun x : Dg => x.2.2) ord_int))
theorem stg_of {l l' : List Dg} (h : StSort l l') : StG cd l l' := by
  obtain ⟨os, p, w, rfl⟩ := h
  refine ⟨os.map fun e => (strip e, e.t), ?_, ?_, ?_⟩
  · have : ∀ (i : Nat) (l : List Dg), (tagF i l).map (fun e => (strip e, e.t)) = tagG i l := by
      intro i l
      induction l generalizing i with
      | nil => rfl
      | cons x r ih => rw [tagF, List.map_cons, ih, tagG]; rfl
    rw [← this]
    exact p.map _
  · rw [List.pairwise_map]
    refine w.imp fun {x y} h => ?_
    unfold LT at h
    rw [decide_eq_true_iff] at h
    exact h
  · rw [List.map_map]
    rfl
theorem sort_same {l l' : List Dg} (h : StSort l l') : l' = sortI cd [] l := (stg_of h).uniq ordD (sortI_st ordD l)
theorem sgn_lt (a b : Int) : decide (sgn a b < 0) = decide (a < b) := by
  unfold sgn
  rw [decide_eq_decide]
  (repeat' split) <;> omega
theorem cd_ne1 {x y : Dg} (h : x.1 ≠ y.1) : decide (cd x y < 0) = Op.bytesLess x.1.data.toList y.1.data.toList := by
  have h0 : cmpB x.1 y.1 ≠ 0 := fun e => h (cmpB_eq e)
  unfold cd thenI
  rw [if_neg h0]
  exact cb_less _ _
theorem cd_ne2 {x y : Dg} (h : x.1 = y.1) (g : x.2.1 ≠ y.2.1) : decide (cd x y < 0) = decide (x.2.1 < y.2.1) := by
  have h0 : cmpB x.1 y.1 = 0 := by rw [h]; exact cmpB_self _
  have h1 : sgn x.2.1 y.2.1 ≠ 0 := by unfold sgn; (repeat' split) <;> omega
  unfold cd thenI
  rw [if_pos h0, if_neg h1]
  exact sgn_lt _ _
theorem cd_ne3 {x y : Dg} (h : x.1 = y.1) (g : x.2.1 = y.2.1) : decide (cd x y < 0) = decide (x.2.2 < y.2.2) := by
  have h0 : cmpB x.1 y.1 = 0 := by rw [h]; exact cmpB_self _
  have h1 : sgn x.2.1 y.2.1 = 0 := by unfold sgn; (repeat' split) <;> omega
  unfold cd thenI
  rw [if_pos h0, if_pos h1]
  exact sgn_lt _ _
set_option maxHeartbeats 4000000 in
set_option maxRecDepth 100000 in
theorem ahead_any (x y : Dg) (w : World) : Calls Tryz.prog 67 #[.agg #[.string x.1, .int .i64 x.2.1, .int .i64 x.2.2], .agg #[.string y.1, .int .i64 y.2.1, .int .i64 y.2.2]] w fun e w' => e = .returned (.bool (decide (cd x y < 0))) ∧ ∃ q os, w' = Go.Sort.grow (w.drewN q) os := by
  obtain ⟨r, hr⟩ : ∃ r, r = decide (cd x y < 0) := ⟨_, rfl⟩
  rw [← hr]
  obtain ⟨x1, x2, x3⟩ := x
  obtain ⟨y1, y2, y3⟩ := y
  have HB : Hid (∃ q os, ((w.alloc (.cells #[.string x1, .int .i64 x2, .int .i64 x3] 78)).alloc (.cells #[.string y1, .int .i64 y2, .int .i64 y3] 78)) = Go.Sort.grow (w.drewN q) os) := by
    refine ⟨0, #[.cells #[.string x1, .int .i64 x2, .int .i64 x3] 78] ++ #[.cells #[.string y1, .int .i64 y2, .int .i64 y3] 78], ?_⟩
    rw [Go.Sort.alloc_eq_grow, Go.Sort.alloc_eq_grow, Go.Sort.grow_grow]
    rfl
  by_cases h1 : x1 = y1
  · by_cases h2 : x2 = y2
    · have e := cd_ne3 (x := (x1, x2, x3)) (y := (y1, y2, y3)) h1 h2
      rw [← hr] at e
      have HE := Lib.hid e
      subst h1 h2
      clear hr e
      go_enter Tryz.func67, Tryz.ntmps67
      go_wp2
      go_ret
      exact ⟨rb (by rw [HE.out]), HB.out⟩
    · have e := cd_ne2 (x := (x1, x2, x3)) (y := (y1, y2, y3)) h1 h2
      rw [← hr] at e
      have HE := Lib.hid e
      have q2 : (x2 != y2) = true := by rw [bne_iff_ne]; exact h2
      have q3 : (x2 == y2) = false := by rw [beq_eq_false_iff_ne]; exact h2
      subst h1
      clear hr e h2
      go_enter Tryz.func67, Tryz.ntmps67
      go_wp2
      go_ret
      exact ⟨rb (by rw [HE.out]), HB.out⟩
  · have e := cd_ne1 (x := (x1, x2, x3)) (y := (y1, y2, y3)) h1
    rw [← hr] at e
    have HE := Lib.hid e
    have hl : x1.toList ≠ y1.toList := fun g => h1 (by rw [ByteArray.toList_eq, ByteArray.toList_eq] at g; cases x1; cases y1; simp only [ByteArray.mk.injEq]; exact Array.toList_inj.1 g)
    have q2 : (x1.toList != y1.toList) = true := by rw [bne_iff_ne]; exact hl
    have q3 : (x1.toList == y1.toList) = false := by rw [beq_eq_false_iff_ne]; exact hl
    clear hr e h1 hl
    go_enter Tryz.func67, Tryz.ntmps67
    go_wp2
    go_ret
    exact ⟨rb (by rw [HE.out]; first | rfl | simp [ByteArray.toList_eq]), HB.out⟩
end Sd
end Go.Proofs.YthjflofcgdfekaaGreatDoor
namespace Go.Proofs.YthjflofcgdfekaaGreatDoor
open Go.RowKit Go.Op
namespace Od
open Sb (RowAt)
def RowV {α : Type} (w : World) (f : α → List Value) (sz : Nat) (A : Option Addr) (l : List α) : Prop :=
  0 < l.length → ∃ b o, A = some ⟨b, o, none⟩ ∧ b < w.heap.size ∧ ∀ i x, l[i]? = some x → ∀ j u, (f x)[j]? = some u → w.cell? ⟨b, o + i * sz + j, none⟩ = some u
theorem RowV.of {α : Type} {w : World} {lo hi : Nat} {f : α → List Value} {sz : Nat} {A : Option Addr} {l : List α} (h : RowAt w lo hi f sz A l) (hh : hi ≤ w.heap.size) : RowV w f sz A l := fun h0 => by
  obtain ⟨g, e, _, h2, h3⟩ := h h0
  exact ⟨g, 0, e, by omega, fun i x hx j u hj => by rw [Nat.zero_add]; exact h3 i x hx j u hj⟩
theorem RowV.below {α : Type} {w w' : World} {f : α → List Value} {sz : Nat} {A : Option Addr} {l : List α} (h : RowV w f sz A l) (hb : Below w.heap.size w w') : RowV w' f sz A l := fun h0 => by
  obtain ⟨b, o, e, h1, h2⟩ := h h0
  exact ⟨b, o, e, by have := hb.size; omega, fun i x hx j u hj => (hb.cell (p := ⟨b, o + i * sz + j, none⟩) h1).trans (h2 i x hx j u hj)⟩
theorem flat_any {α : Type} {f : α → List Value} {sz : Nat} (hf : ∀ x, (f x).length = sz) : ∀ M : List α, (M.flatMap f).length = M.length * sz
  | [] => by simp
  | x :: r => by rw [List.flatMap_cons, List.length_append, flat_any hf r, List.length_cons, hf, Nat.add_mul, Nat.one_mul, Nat.add_comm]
theorem RowV.flat {α : Type} {w : World} {f : α → List Value} {sz : Nat} {a : Addr} {l : List α} (h : RowV w f sz (some a) l) (hf : ∀ x, (f x).length = sz) (j : Nat) (u : Value) (hu : (l.flatMap f)[j]? = some u) : w.cell? (a.add j) = some u := by
  obtain ⟨q, y, o, e1, e2, e3⟩ := Sc.flat_cell (sz := sz) hf _ _ _ hu
  obtain ⟨b, of, e, _, hc⟩ := h (by have := (List.getElem?_eq_some_iff.1 e1).1; omega)
  injection e with e
  subst e
  have := hc q y e1 o u e2
  rw [show (⟨b, of, none⟩ : Addr).add j = ⟨b, of + j, none⟩ by unfold Addr.add; split <;> simp_all, e3, ← Nat.add_assoc]
  exact this
end Od
end Go.Proofs.YthjflofcgdfekaaGreatDoor
namespace Go.Proofs.YthjflofcgdfekaaGreatDoor
open Go.RowKit Go.Op
namespace Sd
open Sc Vm Od Og
open Sb (RowAt sgn)
theorem info75 : (Tryz.prog.info? 75).map (fun i => (i.zero, i.size, i.bytes)) = some (some (.agg #[.string ByteArray.empty, .int .i64 0, .int .i64 0]), 3, 32) := by kernel_rfl
set_option maxHeartbeats 4000000 in
set_option maxRecDepth 100000 in
theorem cloneD_any (A : Option Addr) (cap : Nat) (l : List Dg) (w : World) (hes : RowV w dgC 3 A l) (hl : l.length ≤ 1000000) :
    Calls Tryz.prog 60 #[.slice A l.length cap] w fun e w' => ∃ v', e = .returned v' ∧ w'.ownsRow w.heap.size 75 3 v' l.length (l.flatMap dgC) ∧ Below w.heap.size w w' := by
  obtain ⟨i0, hi, hz0, hz1, hz2⟩ := info_parts info75
  have q22 : ∀ (w : World) (a : Option Addr) (n c n' c' : Nat), (binOp .eql 68 (.slice a n c) (.slice none n' c')).run Tryz.prog w = .ok (.bool a.isNone) w := fun w a n c n' c' => Lib.run_eql_slice_nil w _ _ a n c n' c' Tryz.underlying68
  cases A with
  | none =>
    have h0 : l = [] := by
      cases l with
      | nil => rfl
      | cons e r => obtain ⟨b, off, h, _⟩ := hes (by simp); cases h
    subst h0
    go_enter Tryz.func60, Tryz.ntmps60
    go_wp2
    go_ret
    exact ⟨_, rfl, ⟨rfl, .inl ⟨rfl, rfl⟩⟩, Below.refl _ _⟩
  | some ad =>
    have HC := Lib.hid (hes.flat dgC_len)
    clear hes
    go_enter Tryz.func60, Tryz.ntmps60
    go_wp2_with (at_builtin; refine wpList_append_own _ rfl _ _ 68 rfl w.heap.size 75 i0 _ 3 32 Tryz.underlying68 hi hz0 hz1 hz2 rfl (by omega) _ _ _ rfl (World.ownsRow_made w #[] 0 (Nat.le_refl _) (Nat.zero_le _) (by simp)) ad l.length cap (l.flatMap dgC) rfl ?qc1 ?qc2 ?qc3 ?qc4 ?qc5 ?qc6 ?_)
    case qc1 => exact flat_any dgC_len l
    case qc2 =>
      intro j u hj
      exact Lib.cell?_alloc_some _ (HC.out j u hj)
    case qc3 =>
      intro u hu
      obtain ⟨x, _, hx⟩ := List.mem_flatMap.1 hu
      simp [dgC] at hx
      rcases hx with rfl | rfl | rfl <;> rfl
    case qc4 => unfold maxLen; omega
    case qc5 => omega
    case qc6 => simp
    intro v' w1 hown hgrow hnil
    have HO := Lib.hid hown
    have HB : Hid (Below w.heap.size w w1) := ((Below.refl _ w).alloc (Nat.le_refl _) _).grown hgrow (by simp) (by intro k hk; simp [Value.ownBlock] at hk; omega)
    clear hown hgrow hnil
    go_wp2
    go_ret
    exact ⟨v', rfl, by simpa using HO.out, HB.out⟩
set_option maxHeartbeats 4000000 in
set_option maxRecDepth 100000 in
theorem sort_any (A : Option Addr) (cap : Nat) (l : List Dg) (w : World) (hes : RowV w dgC 3 A l) (hl : l.length ≤ 1000000) :
    Calls Tryz.prog 26 #[.slice A l.length cap] w fun e w' => ∃ A' c', e = .returned (.slice A' l.length c') ∧ RowAt w' w.heap.size w'.heap.size dgC 3 A' (sortI cd [] l) ∧ Below w.heap.size w w' := by
  have C1 := Lib.hid (cloneD_any A cap l w hes hl)
  obtain ⟨n, hn⟩ : ∃ n, n = l.length := ⟨_, rfl⟩
  have HN := Lib.hid hn
  rw [← hn] at C1 ⊢
  have HL := Lib.hid hl
  clear hes hn hl
  go_enter Tryz.func26, Tryz.ntmps26
  go_wp2_with fail
  refine C1.out.mono ?_
  rintro e w1 ⟨v1, rfl, ho, hb⟩
  obtain ⟨A1, c1, rfl, hc1⟩ := own_shape ho
  have C2 := Lib.hid (sortDiag_any (w := w1) (A := A1) (c := c1) (l := l) ho HN.out HL.out)
  have HB := Lib.hid hb
  have HO := Lib.hid ho
  clear ho hb C1 hc1
  go_wp2_with fail
  refine C2.out.mono ?_
  rintro e w2 ⟨rfl, ⟨l', hs, hr⟩, a1, a2, a3, a4, a5⟩
  have hB2 : Below w.heap.size w w2 := ⟨a1.trans HB.out.os, a2.trans HB.out.tape, a3.trans HB.out.output, Nat.le_trans HB.out.size a4, fun g hg => (a5 g (Nat.lt_of_lt_of_le hg HB.out.size) (fun e => by have := (HO.out.lt g e).1; omega)).trans (HB.out.block g hg)⟩
  have hs' := sort_same hs
  rw [hs'] at hr
  have HR := Lib.hid hr
  have HB2 := Lib.hid hB2
  clear hs hs' hr a1 a2 a3 a4 a5 hB2 C2
  go_wp2_with fail
  go_ret
  exact ⟨A1, c1, rfl, HR.out, HB2.out⟩
end Sd
end Go.Proofs.YthjflofcgdfekaaGreatDoor
namespace Go.Proofs.YthjflofcgdfekaaGreatDoor
open Go.RowKit Go.Op
namespace Sd
open Sc Vm Od Og
open Sb (RowAt sgn)
set_option maxHeartbeats 8000000 in
set_option maxRecDepth 100000 in
theorem diags_same (l : List Dg) (A B : Option Addr) (c d : Nat) (w : World) (h : RowV w dgC 3 A l) (k : RowV w dgC 3 B l) (hl : l.length ≤ 1000000) :
    Calls Tryz.prog 23 #[.slice A l.length c, .slice B l.length d] w fun e w' => e = .returned (.bool true) ∧ Below w.heap.size w w' := by
  obtain ⟨n, hn⟩ : ∃ n, n = l.length := ⟨_, rfl⟩
  have HN := Lib.hid hn
  rw [← hn] at hl ⊢
  have HA := Lib.hid h
  have HB := Lib.hid k
  clear h k hn
  go_enter Tryz.func23, Tryz.ntmps23
  go_wp2_with fail
  go_loopg [14] (n + 1) (fun kx s14 wr => ∃ (i : Nat), s14 = .int .i64 i ∧ n - i ≤ kx ∧ i ≤ n ∧ Hid (Below w.heap.size w wr))
  case atStart => exact ⟨0, rfl, by omega, by omega, Below.refl _ _⟩
  case round =>
    obtain ⟨i, rfl, hkx, hin, HQ⟩ := hrel
    by_cases hi : i < n
    · have hil : (i : Int) < (n : Int) := by omega
      obtain ⟨x, hx⟩ : ∃ x, l[i]? = some x := ⟨l[i]'(by rw [← HN.out]; exact hi), List.getElem?_eq_getElem _⟩
      obtain ⟨b1, o1, rfl, l1, k1⟩ := HA.out.below HQ.out (by rw [← HN.out]; omega)
      obtain ⟨b2, o2, rfl, l2, k2⟩ := HB.out.below HQ.out (by rw [← HN.out]; omega)
      have a0 : wr.cell? ⟨b1, o1 + i * 3, none⟩ = some (.string x.1) := k1 i x hx 0 _ rfl
      have a1 := k1 i x hx 1 _ rfl
      have a2 := k1 i x hx 2 _ rfl
      have c0 : wr.cell? ⟨b2, o2 + i * 3, none⟩ = some (.string x.1) := k2 i x hx 0 _ rfl
      have c1 := k2 i x hx 1 _ rfl
      have c2 := k2 i x hx 2 _ rfl
      obtain ⟨x1, x2, x3⟩ := x
      simp only at a0 a1 a2 c0 c1 c2
      obtain ⟨j, hj⟩ : ∃ j, j = i + 1 := ⟨_, rfl⟩
      have e1 : IntKind.i64.wrap ((i : Int) + 1) = (j : Int) := by rw [IntKind.wrap_i64]; omega
      have HJ := Lib.hid hj
      have HQ2 : Hid (Below w.heap.size w (wr.alloc (.cells #[.string x1, .int .i64 x2, .int .i64 x3] 75))) := HQ.out.alloc HQ.out.size _
      clear k1 k2 hx hj
      go_wp2_with fail
      go_quiet (fail)
      have HQ3 : Hid (Below w.heap.size w ((wr.alloc (.cells #[.string x1, .int .i64 x2, .int .i64 x3] 75)).drewN nq)) := HQ2.out.trans ⟨rfl, rfl, rfl, Nat.le_refl _, fun _ _ => rfl⟩
      clear a0 a1 a2 c0 c1 c2 HQ2
      go_wp2_with fail
      have hj := HJ.out
      go_roundg (n - j)
      case measure => omega
      case rel => exact ⟨j, rfl, by omega, by omega, HQ3.out⟩
    · have hd1 : decide ((i : Int) < (n : Int)) = false := decide_eq_false (by omega)
      go_wp2_with fail
      go_ret
      exact ⟨rfl, HQ.out⟩
end Sd
end Go.Proofs.YthjflofcgdfekaaGreatDoor
namespace Go.Proofs.YthjflofcgdfekaaGreatDoor
open Go.RowKit Go.Op
namespace Sd
open Sc Vm Od Og
open Sb (RowAt sgn)
theorem ahead_below (x y : Dg) (w : World) : Calls Tryz.prog 67 #[.agg #[.string x.1, .int .i64 x.2.1, .int .i64 x.2.2], .agg #[.string y.1, .int .i64 y.2.1, .int .i64 y.2.2]] w fun e w' => e = .returned (.bool (decide (cd x y < 0))) ∧ Below w.heap.size w w' :=
  (ahead_any x y w).mono fun e w' h => ⟨h.1, by
    obtain ⟨_, q, os, rfl⟩ := h
    exact ⟨rfl, rfl, rfl, by simp [Go.Sort.grow], fun k hk => by simp [Go.Sort.grow, Array.getElem?_append, hk]⟩⟩
structure SortD (w : World) (l : List Dg) (i : Nat) (A : Option Addr) (c : Nat) (wr : World) : Prop where
  ex : ∃ m : List Dg, m.length = i ∧ DgL wr w.heap.size A c m ∧ sortI cd m (l.drop i) = sortI cd [] l
  be : Below w.heap.size w wr
set_option maxHeartbeats 40000000 in
set_option maxRecDepth 100000 in
theorem rsort_any (A0 : Option Addr) (cap : Nat) (l : List Dg) (w : World) (hv : RowV w dgC 3 A0 l) (hl : l.length ≤ 1000000) :
    Calls Tryz.prog 27 #[.slice A0 l.length cap] w fun e w' => ∃ A' c', e = .returned (.slice A' l.length c') ∧ RowAt w' w.heap.size w'.heap.size dgC 3 A' (sortI cd [] l) ∧ Below w.heap.size w w' := by
  have mixed : Tryz.prog.follows .mixedOrders = true := by kernel_rfl
  have HV := Lib.hid hv
  obtain ⟨nb, hnb⟩ : ∃ nb, nb = l.length := ⟨_, rfl⟩
  have HNB := Lib.hid hnb
  rw [← hnb] at hl ⊢
  have HSL : Hid (SortD w l 0 none 0 w) := ⟨⟨[], rfl, ⟨fun h => absurd h (by simp), Nat.le_refl _, fun _ => rfl, fun a e => by cases e⟩, by rw [List.drop_zero]⟩, Below.refl _ _⟩
  clear hv hnb
  go_enter Tryz.func27, Tryz.ntmps27
  go_wp2_with fail
  go_loopg [3, 4] (nb + 1) (fun kx s3 s4 wr => ∃ (i : Nat) (Ab : Option Addr) (cb : Nat), s3 = .slice Ab i cb ∧ s4 = .int .i64 i ∧ nb - i ≤ kx ∧ i ≤ nb ∧ Hid (SortD w l i Ab cb wr))
  case atStart => exact ⟨0, none, 0, rfl, rfl, by omega, by omega, HSL.out⟩
  case round =>
    clear HSL
    obtain ⟨i, Ab, cb, rfl, rfl, hkx, hin, HR⟩ := hrel
    by_cases hi : i < nb
    · have hil : (i : Int) < (nb : Int) := by omega
      obtain ⟨x, hx⟩ : ∃ x, l[i]? = some x := ⟨l[i]'(by rw [← HNB.out]; exact hi), List.getElem?_eq_getElem _⟩
      obtain ⟨g3, o3, eA3, hg3, hc3⟩ := HV.out (by rw [← HNB.out]; omega)
      subst eA3
      have HZ : Hid (∀ wq, Below w.heap.size w wq → wq.cell? ⟨g3, o3 + i * 3, none⟩ = some (.string x.1) ∧ wq.cell? ⟨g3, o3 + i * 3 + 1, none⟩ = some (.int .i64 x.2.1) ∧ wq.cell? ⟨g3, o3 + i * 3 + 2, none⟩ = some (.int .i64 x.2.2)) := fun wq hb => ⟨(hb.cell (p := ⟨g3, o3 + i * 3, none⟩) hg3).trans (hc3 i x hx 0 _ rfl), (hb.cell (p := ⟨g3, o3 + i * 3 + 1, none⟩) hg3).trans (hc3 i x hx 1 _ rfl), (hb.cell (p := ⟨g3, o3 + i * 3 + 2, none⟩) hg3).trans (hc3 i x hx 2 _ rfl)⟩
      obtain ⟨⟨m, hl1, hl2, hl3⟩, hbe⟩ := HR.out
      have HBE := Lib.hid hbe
      have HL1 := Lib.hid hl1
      have HL2 := Lib.hid hl2
      have HL3' : Hid (∀ p, posI cd m x i = p → sortI cd (m.take p ++ [x] ++ m.drop p) (l.drop (i + 1)) = sortI cd [] l) := fun p hp => by
        rw [← hl3]
        obtain ⟨hi', hxe⟩ := List.getElem?_eq_some_iff.1 hx
        rw [List.drop_eq_getElem_cons hi', hxe, sortI]
        unfold insI
        rw [hl1, hp]
      clear hx hg3 hc3 hl1 hl2 hl3 hbe HR
      go_wp2_with fail
      obtain ⟨WO, rfl⟩ : ∃ WO, WO = wr := ⟨_, rfl⟩
      go_loopg [5] (i + 1) (fun kx s5 wr => ∃ (p : Nat), s5 = .int .i64 p ∧ p ≤ kx ∧ p ≤ i ∧ Hid (posI cd m x i = posI cd m x p) ∧ Hid (Below WO.heap.size WO wr))
      case atStart => exact ⟨i, rfl, by omega, by omega, rfl, Below.refl _ _⟩
      case round =>
        obtain ⟨p, rfl, hkp, hpi, HP, HQ⟩ := hrel
        have HBQ : Hid (Below w.heap.size w wr) := HBE.out.trans (HQ.out.mono HBE.out.size)
        by_cases hp0 : p = 0
        · have hp : posI cd m x i = p := by rw [HP.out, hp0]; rfl
          have hgt : decide (0 < p) = false := by rw [hp0]; rfl
          clear hp0
          go_wp2_with fail
          go_quiet (fail)
          obtain ⟨WQ, hWQ⟩ : ∃ WQ, WQ = wr.drewN nq := ⟨_, rfl⟩
          have HBQ2 : Hid (Below w.heap.size w WQ) := by rw [hWQ]; exact HBQ.out.trans (((⟨rfl, rfl, rfl, Nat.le_refl _, fun _ _ => rfl⟩ : Below wr.heap.size wr (wr.drewN nq))).mono HBQ.out.size)
          have HLQ : Hid (DgL WQ w.heap.size Ab cb m) := by rw [hWQ]; exact (HL2.out.below HQ.out).below ((⟨rfl, rfl, rfl, Nat.le_refl _, fun _ _ => rfl⟩ : Below wr.heap.size wr (wr.drewN nq)))
          rw [← hWQ]
          clear hWQ
          obtain ⟨v1, w1, v2, w3, A4, c4, w4, hr1, hr2, hr3, hbl, hb1, hb3, hb4⟩ := bad_round HLQ.out HBQ2.out.size (by have := HL1.out; omega) x p (by have := HL1.out; omega) (cutA Ab cb p) (cb - p) (fun e => by rw [e]; exact ⟨cutA_none, by have := HLQ.out.2.2.1 e; omega⟩) (fun g e => by rw [e]; exact ⟨cutA_some, fun hpl => cutA_lt (by have := HLQ.out.2.1; omega)⟩)
          rw [HL1.out] at hr3
          have hsl1 := fun wx => sl_h (i := i) (p := p) (A := Ab) (c := cb) (by have := HLQ.out.2.1; have := HL1.out; omega) HLQ.out.2.2.2 wx
          have hsl2 := fun wx => sl_l (i := i) (p := p) (A := Ab) (c := cb) (by omega) (by have := HLQ.out.2.1; have := HL1.out; omega) wx
          have HS2 : Hid (SortD w l (i + 1) A4 c4 w4) := ⟨⟨_, by first | (simp [HL1.out]; done) | (simp [HL1.out]; omega), hbl, HL3'.out p hp⟩, HBQ2.out.trans (hb4.mono HBQ2.out.size)⟩
          have hb5 := HBQ2.out.trans (hb1.mono HBQ2.out.size)
          obtain ⟨hz0, hz1, hz2⟩ := HZ.out w1 hb5
          have HR1 := Lib.hid (AppR.mk hr1)
          have HR2 := Lib.hid (AppR.mk hr2)
          have HR3' := Lib.hid (AppR.mk hr3)
          obtain ⟨m2, hm2⟩ : ∃ m2, m2 = i - p := ⟨_, rfl⟩
          obtain ⟨k2, hk2⟩ : ∃ k2, k2 = cb - p := ⟨_, rfl⟩
          rw [← hm2, ← hk2] at hsl2 HR3'
          obtain ⟨Ac, hAc⟩ : ∃ Ac, Ac = cutA Ab cb p := ⟨_, rfl⟩
          rw [← hAc] at hsl2 HR3'
          clear hb1 hb3 hb4 hb5 hbl hr1 hr2 hr3 hm2 hk2 hAc hp hgt
          go_wp2_with (at_builtin; first | refine wpl_app _ rfl _ _ rfl _ rfl _ _ rfl rfl _ _ HR1.out ?_ | refine wpl_app _ rfl _ _ rfl _ rfl _ _ rfl rfl _ _ HR2.out ?_ | refine wpl_app _ rfl _ _ rfl _ rfl _ _ rfl rfl _ _ HR3'.out ?_)
          have hw1 : IntKind.i64.wrap ((i : Int) + 1) = ((i + 1 : Nat) : Int) := by rw [IntKind.wrap_i64]; omega
          try rw [hw1]
          go_roundg (nb - (i + 1))
          case measure => omega
          case rel => exact ⟨i + 1, A4, c4, rfl, rfl, by omega, by omega, HS2.out⟩
        · obtain ⟨q, hq⟩ : ∃ q, p = q + 1 := ⟨p - 1, by omega⟩
          have HPQ := Lib.hid hq
          have hgt : 0 < p := by omega
          have ew : IntKind.i64.wrap ((p : Int) - 1) = (q : Int) := by rw [IntKind.wrap_i64]; omega
          have ew2 : (p : Int) - 1 = (q : Int) := by omega
          have hql : (q : Int) < (i : Int) := by omega
          obtain ⟨y, hy⟩ : ∃ y, m[q]? = some y := ⟨m[q]'(by have := HL1.out; omega), List.getElem?_eq_getElem _⟩
          obtain ⟨gb, eAb, _, hgb, hcb⟩ := HL2.out.1 (by have := HL1.out; omega)
          have hb0 := fun d os => cell_regrown (show wr.cell? ⟨gb, q * 3, none⟩ = some (.string y.1) from (HQ.out.cell (p := ⟨gb, q * 3, none⟩) hgb).trans (hcb q y hy 0 _ rfl)) d os
          have hb1 := fun d os => cell_regrown (show wr.cell? ⟨gb, q * 3 + 1, none⟩ = some (.int .i64 y.2.1) from (HQ.out.cell (p := ⟨gb, q * 3 + 1, none⟩) hgb).trans (hcb q y hy 1 _ rfl)) d os
          have hb2 := fun d os => cell_regrown (show wr.cell? ⟨gb, q * 3 + 2, none⟩ = some (.int .i64 y.2.2) from (HQ.out.cell (p := ⟨gb, q * 3 + 2, none⟩) hgb).trans (hcb q y hy 2 _ rfl)) d os
          have ha := HZ.out wr (HBE.out.trans (HQ.out.mono HBE.out.size))
          have ha0 := fun d os => cell_regrown ha.1 d os
          have ha1 := fun d os => cell_regrown ha.2.1 d os
          have ha2 := fun d os => cell_regrown ha.2.2 d os
          have hstep := posI_step (c := cd) (x := x) hy
          have HEA := Lib.hid eAb
          clear hq hcb hgb hy eAb ha
          obtain ⟨cv, hcv⟩ : ∃ cv, cv = decide (cd x y < 0) := ⟨_, rfl⟩
          have C67 : ∀ w, Calls Tryz.prog 67 #[.agg #[.string x.1, .int .i64 x.2.1, .int .i64 x.2.2], .agg #[.string y.1, .int .i64 y.2.1, .int .i64 y.2.2]] w fun e w' => e = .returned (.bool cv) ∧ Below w.heap.size w w' := fun w => by rw [hcv]; exact ahead_below x y w
          have HC67 := Lib.hid C67
          clear C67
          by_cases hlt : cd x y < 0
          · rw [if_pos hlt] at hstep
            rw [decide_eq_true hlt] at hcv
            have HST := Lib.hid hstep
            subst hcv
            rw [HEA.out]
            clear hstep hlt
            go_wp2_with fail
            refine wp_region_quiet_below (by kernel_rfl) (by kernel_rfl) ?_
            repeat (go_big_quiet_step (first
              | (go_at_call 67; exact Calls.regrown_of (HC67.out _))))
            refine wpQuiet_nil ?_
            intro _ hw'
            obtain ⟨⟨dq, osq⟩, hw''⟩ := hw'
            subst hw''
            rw [← HEA.out]
            have HQ2 : Hid (Below WO.heap.size WO (Go.Sort.grow (redrawn wr dq) osq)) := HQ.out.trans ((below_regrown wr dq osq).mono HQ.out.size)
            clear hb0 hb1 hb2 ha0 ha1 ha2
            go_wp2_with fail
            try rw [ew]
            go_roundg q
            case measure => have := HPQ.out; omega
            case rel => exact ⟨q, rfl, by omega, by have := HPQ.out; omega, by unfold Hid; rw [HP.out, HPQ.out]; exact HST.out, HQ2.out⟩
          · rw [if_neg hlt] at hstep
            rw [decide_eq_false hlt] at hcv
            have hp : posI cd m x i = p := by rw [HP.out, HPQ.out]; exact hstep
            subst hcv
            rw [HEA.out]
            clear hstep hlt
            go_wp2_with fail
            refine wp_region_quiet_below (by kernel_rfl) (by kernel_rfl) ?_
            repeat (go_big_quiet_step (first
              | (go_at_call 67; exact Calls.regrown_of (HC67.out _))))
            refine wpQuiet_nil ?_
            intro _ hw'
            obtain ⟨⟨dq, osq⟩, hw''⟩ := hw'
            subst hw''
            rw [← HEA.out]
            obtain ⟨WQ, hWQ⟩ : ∃ WQ, WQ = Go.Sort.grow (redrawn wr dq) osq := ⟨_, rfl⟩
            have HBQ2 : Hid (Below w.heap.size w WQ) := by rw [hWQ]; exact HBQ.out.trans ((below_regrown wr dq osq).mono HBQ.out.size)
            have HLQ : Hid (DgL WQ w.heap.size Ab cb m) := by rw [hWQ]; exact (HL2.out.below HQ.out).below (below_regrown wr dq osq)
            rw [← hWQ]
            clear hWQ hb0 hb1 hb2 ha0 ha1 ha2
            obtain ⟨v1, w1, v2, w3, A4, c4, w4, hr1, hr2, hr3, hbl, hb1, hb3, hb4⟩ := bad_round HLQ.out HBQ2.out.size (by have := HL1.out; omega) x p (by have := HL1.out; omega) (cutA Ab cb p) (cb - p) (fun e => by rw [e]; exact ⟨cutA_none, by have := HLQ.out.2.2.1 e; omega⟩) (fun g e => by rw [e]; exact ⟨cutA_some, fun hpl => cutA_lt (by have := HLQ.out.2.1; omega)⟩)
            rw [HL1.out] at hr3
            have hsl1 := fun wx => sl_h (i := i) (p := p) (A := Ab) (c := cb) (by have := HLQ.out.2.1; have := HL1.out; omega) HLQ.out.2.2.2 wx
            have hsl2 := fun wx => sl_l (i := i) (p := p) (A := Ab) (c := cb) (by omega) (by have := HLQ.out.2.1; have := HL1.out; omega) wx
            have HS2 : Hid (SortD w l (i + 1) A4 c4 w4) := ⟨⟨_, by first | (simp [HL1.out]; done) | (simp [HL1.out]; omega), hbl, HL3'.out p hp⟩, HBQ2.out.trans (hb4.mono HBQ2.out.size)⟩
            have hb5 := HBQ2.out.trans (hb1.mono HBQ2.out.size)
            obtain ⟨hz0, hz1, hz2⟩ := HZ.out w1 hb5
            have HR1 := Lib.hid (AppR.mk hr1)
            have HR2 := Lib.hid (AppR.mk hr2)
            have HR3' := Lib.hid (AppR.mk hr3)
            obtain ⟨m2, hm2⟩ : ∃ m2, m2 = i - p := ⟨_, rfl⟩
            obtain ⟨k2, hk2⟩ : ∃ k2, k2 = cb - p := ⟨_, rfl⟩
            rw [← hm2, ← hk2] at hsl2 HR3'
            obtain ⟨Ac, hAc⟩ : ∃ Ac, Ac = cutA Ab cb p := ⟨_, rfl⟩
            rw [← hAc] at hsl2 HR3'
            clear hb1 hb3 hb4 hb5 hbl hr1 hr2 hr3 hm2 hk2 hAc hp hgt
            go_wp2_with (at_builtin; first | refine wpl_app _ rfl _ _ rfl _ rfl _ _ rfl rfl _ _ HR1.out ?_ | refine wpl_app _ rfl _ _ rfl _ rfl _ _ rfl rfl _ _ HR2.out ?_ | refine wpl_app _ rfl _ _ rfl _ rfl _ _ rfl rfl _ _ HR3'.out ?_)
            have hw1 : IntKind.i64.wrap ((i : Int) + 1) = ((i + 1 : Nat) : Int) := by rw [IntKind.wrap_i64]; omega
            try rw [hw1]
            go_roundg (nb - (i + 1))
            case measure => omega
            case rel => exact ⟨i + 1, A4, c4, rfl, rfl, by omega, by omega, HS2.out⟩
    · have hd1 : decide ((i : Int) < (nb : Int)) = false := decide_eq_false (by omega)
      have hib : i = nb := by omega
      obtain ⟨m, hl1, hl2, hl3⟩ := HR.out.ex
      rw [List.drop_eq_nil_of_le (by rw [← HNB.out]; omega), sortI] at hl3
      rw [hl3] at hl2
      have HL := Lib.hid hl2
      have HB := Lib.hid HR.out.be
      clear hl1 hl2 hl3 HR
      rw [hib]
      go_wp2_with fail
      go_ret
      exact ⟨Ab, cb, rfl, HL.out.1, HB.out⟩
end Sd
end Go.Proofs.YthjflofcgdfekaaGreatDoor
