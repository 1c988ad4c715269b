/- Contracts: is a binding written. -/
import Derived.Test.YtnefnnoleeeedaaMAV
import Derived.Shelf.SlGeneric
import Derived.Shelf.SortM.Plain
import Derived.Shelf.SortM.SortNone
import Derived.Ground.SlgmProg
import Derived.Laws.OwnMore
import Derived.Lib.AppendZeros
import Derived.KernelRfl
import Derived.Test.YtnefnnoleeeedaaMAL
namespace Go.Proofs.Ytnefnnoleeeedaa
open Go.RowKit Go.Op
namespace Sc
open Sb
abbrev mvv (u : Mn) : Value := .agg #[.int .i64 u.at_, .int .i64 u.to, .bool u.write, .int .i64 u.far]
abbrev mapv (A1 : Option Addr) (n1 c1 : Nat) (A2 : Option Addr) (n2 c2 : Nat) (A3 : Option Addr) (n3 c3 : Nat) : Value := .agg #[.slice A1 n1 c1, .slice A2 n2 c2, .slice A3 n3 c3]
def hasB (n1 : Nat) (i : Int) : Bool := decide (0 ≤ i) && decide (i < n1)
set_option maxHeartbeats 4000000 in
set_option maxRecDepth 100000 in
theorem has_any (A1 : Option Addr) (n1 c1 : Nat) (A2 : Option Addr) (n2 c2 : Nat) (A3 : Option Addr) (n3 c3 : Nat) (i : Int) (w : World) : Calls Try.prog 31 #[mapv A1 n1 c1 A2 n2 c2 A3 n3 c3, .int .i64 i] w fun e w' => e = .returned (.bool (hasB n1 i)) ∧ Below w.heap.size w w' := by
  have HB := Lib.hid (belA w (.cells #[.slice A1 n1 c1, .slice A2 n2 c2, .slice A3 n3 c3] 34))
  unfold hasB
  by_cases h0 : 0 ≤ i
  · by_cases h1 : i < (n1 : Int)
    · go_enter Try.func31, Try.ntmps31
      go_wp2
      (first | go_ret | go_ret2)
      exact ⟨by simp [h0, h1], HB.out⟩
    · have h1' : decide (i < (n1 : Int)) = false := decide_eq_false h1
      go_enter Try.func31, Try.ntmps31
      go_wp2
      (first | go_ret | go_ret2)
      exact ⟨by simp, HB.out⟩
  · have h0' : decide (0 ≤ i) = false := decide_eq_false h0
    go_enter Try.func31, Try.ntmps31
    go_wp2
    (first | go_ret | go_ret2)
    exact ⟨by simp, HB.out⟩
set_option maxHeartbeats 4000000 in
set_option maxRecDepth 100000 in
theorem w42_any (u : Mn) (w : World) : Calls Try.prog 42 #[mvv u] w fun e w' => e = .returned (.bool u.write) ∧ Below w.heap.size w w' := by
  have HB := Lib.hid (belA w (.cells #[.int .i64 u.at_, .int .i64 u.to, .bool u.write, .int .i64 u.far] 47))
  obtain ⟨a, t, wr, f⟩ := u
  simp only at *
  go_enter Try.func42, Try.ntmps42
  go_wp2
  (first | go_ret | go_ret2)
  exact ⟨by first | rfl | simp, HB.out⟩
set_option maxHeartbeats 4000000 in
set_option maxRecDepth 100000 in
theorem w61_any (u : Mn) (i : Int) (q1 q2 : Nat) (w : World) (r1 : RowB w q1 3 #[.int .i64 i]) (r2 : RowB w q2 97 #[.func (.func 42) #[] #[]]) :
    Calls Try.prog 61 #[mvv u, .pointer (some ⟨q1, 0, none⟩), .pointer (some ⟨q2, 0, none⟩)] w fun e w' => e = .returned (.bool (u.to == i && u.write)) ∧ Below w.heap.size w w' := by
  have HB := Lib.hid (belA w (.cells #[.int .i64 u.at_, .int .i64 u.to, .bool u.write, .int .i64 u.far] 47))
  have y1 := (r1.alloc (.cells #[.int .i64 u.at_, .int .i64 u.to, .bool u.write, .int .i64 u.far] 47)).cell
  have y2 := (r2.alloc (.cells #[.int .i64 u.at_, .int .i64 u.to, .bool u.write, .int .i64 u.far] 47)).cell
  have CC := Lib.hid (w42_any u (w.alloc (.cells #[.int .i64 u.at_, .int .i64 u.to, .bool u.write, .int .i64 u.far] 47)))
  obtain ⟨a, t, wr, f⟩ := u
  simp only [mvv] at *
  clear r1 r2
  by_cases h : t = i
  · subst h
    go_enter Try.func61, Try.ntmps61
    go_wp2_with fail
    refine CC.out.mono ?_
    rintro e w2 ⟨rfl, h2⟩
    have H2 := Lib.hid (HB.out.trans (h2.mono (by simp)))
    clear h2 CC
    go_wp2_with fail
    (first | go_ret | go_ret2)
    exact ⟨by first | rfl | simp, H2.out⟩
  · have h' : (t == i) = false := by rw [beq_eq_false_iff_ne]; exact h
    rw [h']
    clear CC
    go_enter Try.func61, Try.ntmps61
    go_wp2
    (first | go_ret | go_ret2)
    exact ⟨by first | rfl | simp, HB.out⟩
/-- Where the first such mention stands, as far as one has looked. -/
def anyW (i : Int) (l : List Mn) : Bool := l.any fun u => u.to == i && u.write
set_option maxHeartbeats 8000000 in
set_option maxRecDepth 100000 in
theorem idx_any (i : Int) (q1 q2 : Nat) (w : World) (r1 : RowB w q1 3 #[.int .i64 i]) (r2 : RowB w q2 97 #[.func (.func 42) #[] #[]]) (A : Option Addr) (c lo hi : Nat) (l : List Mn) (hl : RowAt w lo hi mnC 4 A l) (hh : hi ≤ w.heap.size) (hn : l.length ≤ 1000000000) :
    Calls Try.prog 86 #[.slice A l.length c, .func (.func 61) #[] #[.pointer (some ⟨q1, 0, none⟩), .pointer (some ⟨q2, 0, none⟩)]] w fun e w' => ∃ r : Int, e = .returned (.int .i64 r) ∧ decide (0 ≤ r) = anyW i l ∧ Below w.heap.size w w' := by
  have HL := Lib.hid hl
  have R1 := Lib.hid r1
  have R2 := Lib.hid r2
  have e61 : ∀ args w, (callFunc 61 args).run Try.prog w = .ok (.enter 61 args) w := enters_of Try.func61 (by kernel_rfl) rfl
  obtain ⟨n, hn0⟩ : ∃ n, n = l.length := ⟨_, rfl⟩
  have HN0 := Lib.hid hn0
  rw [← hn0] at hn ⊢
  clear hl r1 r2 hn0
  go_enter Try.func86, Try.ntmps86
  go_wp2_with fail
  go_loopg [8] (n + 1) (fun kx s8 wr => ∃ (j : Nat), s8 = .int .i64 j ∧ n - j ≤ kx ∧ j ≤ n ∧ Hid (Below w.heap.size w wr) ∧ Hid (anyW i l = anyW i (l.drop j)))
  case atStart => exact ⟨0, rfl, by omega, by omega, Below.refl _ _, by rw [List.drop_zero]; rfl⟩
  case round =>
    obtain ⟨j, rfl, hkx, hjn, HB, HE⟩ := hrel
    by_cases hj : j < n
    · have hjl : (j : Int) < (n : Int) := by omega
      obtain ⟨u, hu⟩ : ∃ u, l[j]? = some u := ⟨l[j]'(by rw [← HN0.out]; exact hj), List.getElem?_eq_getElem _⟩
      obtain ⟨g, rfl, hg1, hg2, hc⟩ := HL.out (by rw [← HN0.out]; omega)
      have hcc := fun o v hv => (HB.out.cell (p := ⟨g, j * 4 + o, none⟩) (by show g < w.heap.size; omega)).trans (hc j u hu o v hv)
      have d0 : wr.cell? ⟨g, j * 4, none⟩ = some (.int .i64 u.at_) := hcc 0 _ rfl
      have d1 : wr.cell? ⟨g, j * 4 + 1, none⟩ = some (.int .i64 u.to) := hcc 1 _ rfl
      have d2 : wr.cell? ⟨g, j * 4 + 2, none⟩ = some (.bool u.write) := hcc 2 _ rfl
      have d3 : wr.cell? ⟨g, j * 4 + 3, none⟩ = some (.int .i64 u.far) := hcc 3 _ rfl
      have CC := Lib.hid (w61_any u i q1 q2 wr (R1.out.below HB.out R1.out.lt) (R2.out.below HB.out R2.out.lt))
      have hdr : l.drop j = u :: l.drop (j + 1) := by
        have hj' : j < l.length := by rw [← HN0.out]; exact hj
        rw [List.drop_eq_getElem_cons hj']
        congr 1
        rw [List.getElem?_eq_getElem hj'] at hu
        exact Option.some.inj hu
      obtain ⟨k, hk⟩ : ∃ k, k = j + 1 := ⟨_, rfl⟩
      have ek : IntKind.i64.wrap ((j : Int) + 1) = (k : Int) := by rw [IntKind.wrap_i64]; omega
      have HK := Lib.hid hk
      have HE2 : Hid (anyW i l = ((u.to == i && u.write) || anyW i (l.drop k))) := by rw [hk]; unfold Hid; rw [HE.out, hdr]; rfl
      obtain ⟨p, hp⟩ : ∃ p, p = (u.to == i && u.write) := ⟨_, rfl⟩
      rw [← hp] at CC HE2
      simp only [mvv] at CC
      clear hu hc hcc hdr hp hk HE
      cases p with
      | true =>
        have FE : Hid (∃ r : Int, Ending.returned (Value.int .i64 (j : Int)) = .returned (.int .i64 r) ∧ decide (0 ≤ r) = anyW i l) := ⟨j, rfl, by rw [HE2.out]; simp⟩
        go_wp2_with fail
        refine CC.out.mono ?_
        rintro e w2 ⟨rfl, h2⟩
        have H2 := Lib.hid (HB.out.trans (h2.mono HB.out.size))
        clear h2 CC d0 d1 d2 d3 HB
        go_wp2_with fail
        (first | go_ret | go_ret2)
        obtain ⟨r, h1, h2⟩ := FE.out
        exact ⟨r, h1, h2, H2.out⟩
      | false =>
        go_wp2_with fail
        refine CC.out.mono ?_
        rintro e w2 ⟨rfl, h2⟩
        have H2 := Lib.hid (HB.out.trans (h2.mono HB.out.size))
        clear h2 CC d0 d1 d2 d3 HB
        go_wp2_with fail
        have hk := HK.out
        go_roundg (n - k)
        case measure => omega
        case rel => exact ⟨k, rfl, by omega, by omega, H2.out, by unfold Hid; rw [HE2.out]; simp⟩
    · have hd1 : decide ((j : Int) < (n : Int)) = false := decide_eq_false (by omega)
      have FE : Hid (anyW i l = false) := by
        unfold Hid
        rw [HE.out, List.drop_eq_nil_of_le (by rw [← HN0.out]; omega)]
        rfl
      clear HE
      go_wp2_with fail
      (first | go_ret | go_ret2)
      exact ⟨-1, by first | rfl | simp, by rw [FE.out]; rfl, HB.out⟩
set_option maxHeartbeats 4000000 in
set_option maxRecDepth 100000 in
theorem con_any (i : Int) (q1 q2 : Nat) (w : World) (r1 : RowB w q1 3 #[.int .i64 i]) (r2 : RowB w q2 97 #[.func (.func 42) #[] #[]]) (A : Option Addr) (c lo hi : Nat) (l : List Mn) (hl : RowAt w lo hi mnC 4 A l) (hh : hi ≤ w.heap.size) (hn : l.length ≤ 1000000000) :
    Calls Try.prog 60 #[.slice A l.length c, .func (.func 61) #[] #[.pointer (some ⟨q1, 0, none⟩), .pointer (some ⟨q2, 0, none⟩)]] w fun e w' => e = .returned (.bool (anyW i l)) ∧ Below w.heap.size w w' := by
  have CC := Lib.hid (idx_any i q1 q2 w r1 r2 A c lo hi l hl hh hn)
  clear r1 r2 hl
  go_enter Try.func60, Try.ntmps60
  go_wp2_with fail
  refine CC.out.mono ?_
  rintro e w2 ⟨r, rfl, hr, hb⟩
  have HR := Lib.hid hr
  have HB := Lib.hid hb
  clear hr hb CC
  go_wp2_with fail
  (first | go_ret | go_ret2)
  exact ⟨by rw [← HR.out]; first | rfl | simp, HB.out⟩
end Sc
end Go.Proofs.Ytnefnnoleeeedaa
/- Contracts: numbers sorted; all tokens of a binding. -/
namespace Go.Proofs.Ytnefnnoleeeedaa
open Go.RowKit Go.Op
namespace Sc
open Vm
def srtI_ren : Go.Shelf.Ren := ⟨fun | 5 => 32 | 8 => 52 | 7 => 51 | 19 => 80 | 20 => 81 | 10 => 71 | 11 => 72 | 12 => 73 | 13 => 74 | 14 => 75 | 15 => 76 | 16 => 77 | 17 => 78 | 18 => 79 | 30 => 88 | 31 => 89 | 32 => 90 | 33 => 91 | 34 => 92 | 35 => 48 | 40 => 97 | n => n, fun | 23 => 55 | 25 => 3 | 3 => 3 | 32 => 109 | 22 => 55 | 0 => 0 | 44 => 136 | 46 => 117 | 4 => 4 | 36 => 129 | 35 => 128 | 41 => 121 | 5 => 5 | 9 => 9 | 53 => 143 | 57 => 147 | 63 => 149 | 64 => 150 | n => n, fun | n => n⟩
theorem srtI : Go.Proofs.SlLaysM.n5 Try.prog srtI_ren := {
  mixed := by kernel_rfl
  f5 := ⟨Try.f32.name, by kernel_rfl, Try.func32.trans (congrArg some (by kernel_rfl))⟩
  f7 := ⟨Try.f51.name, by kernel_rfl, Try.func51.trans (congrArg some (by kernel_rfl))⟩
  f8 := Try.func52.trans (congrArg some (by kernel_rfl))
  f10 := ⟨Try.f71.name, by kernel_rfl, Try.func71.trans (congrArg some (by kernel_rfl))⟩
  f11 := ⟨Try.f72.name, by kernel_rfl, Try.func72.trans (congrArg some (by kernel_rfl))⟩
  f12 := ⟨Try.f73.name, by kernel_rfl, Try.func73.trans (congrArg some (by kernel_rfl))⟩
  f13 := ⟨Try.f74.name, by kernel_rfl, Try.func74.trans (congrArg some (by kernel_rfl))⟩
  f14 := ⟨Try.f75.name, by kernel_rfl, Try.func75.trans (congrArg some (by kernel_rfl))⟩
  f15 := ⟨Try.f76.name, by kernel_rfl, Try.func76.trans (congrArg some (by kernel_rfl))⟩
  f16 := ⟨Try.f77.name, by kernel_rfl, Try.func77.trans (congrArg some (by kernel_rfl))⟩
  f17 := ⟨Try.f78.name, by kernel_rfl, Try.func78.trans (congrArg some (by kernel_rfl))⟩
  f18 := ⟨Try.f79.name, by kernel_rfl, Try.func79.trans (congrArg some (by kernel_rfl))⟩
  f19 := Try.func80.trans (congrArg some (by kernel_rfl))
  f20 := Try.func81.trans (congrArg some (by kernel_rfl))
  f30 := ⟨Try.f88.name, by kernel_rfl, Try.func88.trans (congrArg some (by kernel_rfl))⟩
  f31 := Try.func89.trans (congrArg some (by kernel_rfl))
  f32 := Try.func90.trans (congrArg some (by kernel_rfl))
  f33 := ⟨Try.f91.name, by kernel_rfl, Try.func91.trans (congrArg some (by kernel_rfl))⟩
  f34 := ⟨Try.f92.name, by kernel_rfl, Try.func92.trans (congrArg some (by kernel_rfl))⟩
  f35 := ⟨Try.f48.name, by kernel_rfl, Try.func48.trans (congrArg some (by kernel_rfl))⟩
  f40 := ⟨Try.f97.name, by kernel_rfl, Try.func97.trans (congrArg some (by kernel_rfl))⟩
  t0 := Try.underlying0
  a0 := Try.isAgg0
  z0 := Try.sizeOf0
  v0 := Try.zeroValue0
  t3 := Try.underlying3
  a3 := Try.isAgg3
  z3 := Try.sizeOf3
  v3 := Try.zeroValue3
  t4 := Try.underlying4
  a4 := Try.isAgg4
  z4 := Try.sizeOf4
  v4 := Try.zeroValue4
  t5 := Try.underlying5
  a5 := Try.isAgg5
  z5 := Try.sizeOf5
  v5 := Try.zeroValue5
  t9 := Try.underlying9
  a9 := Try.isAgg9
  z9 := Try.sizeOf9
  v9 := Try.zeroValue9
  t22 := Try.underlying55
  a22 := Try.isAgg55
  z22 := Try.sizeOf55
  v22 := Try.zeroValue55
  t23 := Try.underlying55
  a23 := Try.isAgg55
  z23 := Try.sizeOf55
  v23 := Try.zeroValue55
  t25 := Try.underlying3
  a25 := Try.isAgg3
  z25 := Try.sizeOf3
  v25 := Try.zeroValue3
  t32 := Try.underlying109
  a32 := Try.isAgg109
  z32 := Try.sizeOf109
  v32 := Try.zeroValue109
  t35 := Try.underlying128
  a35 := Try.isAgg128
  z35 := Try.sizeOf128
  v35 := Try.zeroValue128
  t36 := Try.underlying129
  a36 := Try.isAgg129
  z36 := Try.sizeOf129
  v36 := Try.zeroValue129
  t41 := Try.underlying121
  a41 := Try.isAgg121
  z41 := Try.sizeOf121
  v41 := Try.zeroValue121
  t44 := Try.underlying136
  a44 := Try.isAgg136
  z44 := Try.sizeOf136
  v44 := Try.zeroValue136
  t46 := Try.underlying117
  a46 := Try.isAgg117
  z46 := Try.sizeOf117
  v46 := Try.zeroValue117
  t53 := Try.underlying143
  a53 := Try.isAgg143
  z53 := Try.sizeOf143
  v53 := Try.zeroValue143
  t57 := Try.underlying147
  a57 := Try.isAgg147
  z57 := Try.sizeOf147
  v57 := Try.zeroValue147
  t63 := Try.underlying149
  a63 := Try.isAgg149
  z63 := Try.sizeOf149
  v63 := Try.zeroValue149
  t64 := Try.underlying150
  a64 := Try.isAgg150
  z64 := Try.sizeOf150
  v64 := Try.zeroValue150 }

open Sb Go.Sort Go.Proofs Go.Shelf in
/-- slices.Sort of a row of one's own: its numbers, rising. -/
theorem sortI_any {w : World} {B n c : Nat} {A : Option Addr} {l : List Int} (h : w.ownsRow B 3 1 (.slice A n c) n (l.flatMap wiC)) (hn : n = l.length) (hl : l.length ≤ 1000000000) :
    Calls Try.prog 32 #[.slice A n c] w fun e w' => e = .returned (.tuple #[]) ∧ RowAt w' B w'.heap.size wiC 1 A (l.mergeSort fun x y => decide (x ≤ y)) ∧ w'.os = w.os ∧ w'.tape = w.tape ∧ w'.output = w.output ∧ w.heap.size ≤ w'.heap.size ∧ ∀ k, k < w.heap.size → (Value.slice A n c).ownBlock ≠ some k → w'.heap[k]? = w.heap[k]? := by
  subst hn
  by_cases h0 : l = []
  · subst h0
    have cc := AnyM.slices_Sort_int_none srtI A c w
    change Calls Try.prog 32 _ _ _ at cc
    refine cc.mono ?_
    rintro e w' ⟨rfl, rfl⟩
    exact ⟨rfl, fun h => by simp at h, rfl, rfl, rfl, Nat.le_refl _, fun _ _ _ => rfl⟩
  · have hlen : 0 < l.length := List.length_pos_iff.2 h0
    obtain ⟨x, hx⟩ : ∃ x, l[0]? = some x := ⟨l[0], List.getElem?_eq_getElem hlen⟩
    obtain ⟨g, c', e1, _, hg, hob, _⟩ := row_get h (fun _ => rfl) hx rfl
    have hlo := (h.lt g hob).1
    rw [hob]
    injection e1 with e1 _ e3
    subst e1 e3
    have hH : Holds (Value.int .i64) w g 0 l.toArray := fun j hj => by
      have hj' : j < l.length := by simpa using hj
      obtain ⟨g', c', e2, _, _, _, hc⟩ := row_get h (fun _ => rfl) (List.getElem?_eq_getElem hj') rfl
      injection e2 with e2 _ _
      injection e2 with e2
      injection e2 with e2
      subst e2
      refine ⟨?_, h.frozenAt (0 + j)⟩
      have := hc 0 (.int .i64 l[j]) rfl
      rw [getElem!_pos l.toArray j hj]
      simpa using this
    have cc := AnyM.slices_Sort_int srtI g 0 c l w hH hg (by omega)
    change Calls Try.prog 32 _ _ _ at cc
    refine cc.mono ?_
    rintro e w' ⟨rfl, n, os, rfl⟩
    have hlm : (l.mergeSort fun x y => decide (x ≤ y)).length = l.length := List.length_mergeSort _
    have hH2 := holds_grow (Value.int .i64) (putRow (Value.int .i64) (Go.Sort.ahead w n) g 0 (l.mergeSort fun x y => decide (x ≤ y)).toArray) os g 0 (l.mergeSort fun x y => decide (x ≤ y)).toArray (by simpa [putRow, mapBlock, Go.Sort.ahead] using hg) (holds_putRow (Value.int .i64) (Go.Sort.ahead w n) g 0 l.toArray _ (fun j hj => hH j hj) (by simp))
    refine ⟨rfl, fun _ => ⟨g, rfl, hlo, ?_, fun i x hx j u hj => ?_⟩, rfl, rfl, rfl, ?_, fun k hk hne => ?_⟩
    · simp [Go.Sort.grow, putRow, mapBlock, Go.Sort.ahead]; omega
    · have hi := (List.getElem?_eq_some_iff.1 hx).1
      have := (hH2 i (by simpa using hi)).1
      rw [getElem!_pos _ i (by simpa using hi)] at this
      rcases j with _ | j
      · simp only [List.getElem?_cons_zero, Option.some.injEq] at hj
        subst hj
        have e : (l.mergeSort fun x y => decide (x ≤ y)).toArray[i]'(by simpa using hi) = x := by
          rw [List.getElem?_eq_getElem hi] at hx
          simpa using Option.some.inj hx
        rw [e] at this
        simpa using this
      · simp at hj
    · simp [Go.Sort.grow, putRow, mapBlock, Go.Sort.ahead]
    · unfold Go.Sort.grow putRow mapBlock Go.Sort.ahead
      have h1 : k < (w.heap.modify g (onCells (putCells (Value.int .i64) 0 (l.mergeSort fun x y => decide (x ≤ y)).toArray))).size := by simp; omega
      simp only [Array.getElem?_append, h1, if_true, Array.getElem?_modify]
      rw [if_neg (fun e => hne (by rw [e]))]
open Sb
/-- The tokens of a binding, as they come. -/
def usesL (s : St) (i : Nat) : List Int := ((s.bs[i]?).map Bd.at_).getD 0 :: (s.ms.filter fun u => u.to == (i : Int)).map Mn.at_
def usesS (s : St) (i : Nat) : List Int := (usesL s i).mergeSort fun x y => decide (x ≤ y)
/-- What Uses answers of a binding that there is. -/
def UsesA (w : World) (l : List Int) (e : Ending) (w' : World) : Prop := ∃ A c, e = .returned (.slice A l.length c) ∧ l.length ≤ c ∧ RowAt w' w.heap.size w'.heap.size wiC 1 A l ∧ Below w.heap.size w w'
/-- What has been found. -/
def foundL (s : St) (i j : Nat) : List Int := ((s.bs[i]?).map Bd.at_).getD 0 :: ((s.ms.take j).filter fun u => u.to == (i : Int)).map Mn.at_
theorem found_all (s : St) (i : Nat) {j : Nat} (h : s.ms.length ≤ j) : foundL s i j = usesL s i := by unfold foundL usesL; rw [List.take_of_length_le h]
theorem found_len (s : St) (i j : Nat) : (foundL s i j).length ≤ j + 1 := by
  unfold foundL
  rw [List.length_cons, List.length_map]
  have h1 := List.length_filter_le (fun u : Mn => u.to == (i : Int)) (s.ms.take j)
  have h2 : (s.ms.take j).length ≤ j := by rw [List.length_take]; omega
  omega
theorem found_next {s : St} {i j : Nat} {u : Mn} (h : s.ms[j]? = some u) : foundL s i (j + 1) = if u.to = (i : Int) then foundL s i j ++ [u.at_] else foundL s i j := by
  unfold foundL
  rw [List.take_add_one, h]
  simp only [Option.toList_some, List.filter_append, List.map_append]
  split
  · rename_i e
    rw [List.filter_cons_of_pos (by simp [e])]
    simp
  · rename_i e
    rw [List.filter_cons_of_neg (by simp [e])]
    simp
set_option maxHeartbeats 8000000 in
set_option maxRecDepth 100000 in
theorem uses_none (A1 : Option Addr) (n1 c1 : Nat) (A2 : Option Addr) (n2 c2 : Nat) (A3 : Option Addr) (n3 c3 : Nat) (i : Int) (w : World) (h : hasB n1 i = false) : Calls Try.prog 14 #[mapv A1 n1 c1 A2 n2 c2 A3 n3 c3, .int .i64 i] w fun e w' => e = .returned (.slice none 0 0) ∧ Below w.heap.size w w' := by
  have HB := Lib.hid (belA w (.cells #[.slice A1 n1 c1, .slice A2 n2 c2, .slice A3 n3 c3] 34))
  have CC := Lib.hid (has_any A1 n1 c1 A2 n2 c2 A3 n3 c3 i (w.alloc (.cells #[.slice A1 n1 c1, .slice A2 n2 c2, .slice A3 n3 c3] 34)))
  rw [h] at CC
  simp only [mapv] at CC ⊢
  clear h
  go_enter Try.func14, Try.ntmps14
  go_wp2_with fail
  refine CC.out.mono ?_
  rintro e w2 ⟨rfl, h2⟩
  have H2 := Lib.hid (HB.out.trans (h2.mono (by simp)))
  clear h2 CC
  go_wp2_with fail
  (first | go_ret | go_ret2)
  exact ⟨by first | rfl | simp, H2.out⟩
set_option maxHeartbeats 16000000 in
set_option maxRecDepth 100000 in
theorem uses_any {s : St} {A1 A2 A3 : Option Addr} {c1 c2 n3 c3 lo hi i : Nat} {w : World} (h1 : RowAt w lo hi bdC 4 A1 s.bs) (h2 : RowAt w lo hi mnC 4 A2 s.ms) (hh : hi ≤ w.heap.size) (hi0 : i < s.bs.length) (hn : s.ms.length ≤ 100000000) (hn1 : s.bs.length ≤ 100000000) :
    Calls Try.prog 14 #[mapv A1 s.bs.length c1 A2 s.ms.length c2 A3 n3 c3, .int .i64 (i : Int)] w (UsesA w (usesS s i)) := by
  obtain ⟨bd, hbd⟩ : ∃ bd, s.bs[i]? = some bd := ⟨s.bs[i], List.getElem?_eq_getElem hi0⟩
  obtain ⟨g1, rfl, hg1, hg2, hc1⟩ := h1 (by omega)
  have hil : (i : Int) < (s.bs.length : Int) := by omega
  have HB0 := Lib.hid (belA w (.cells #[.slice (some ⟨g1, 0, none⟩) s.bs.length c1, .slice A2 s.ms.length c2, .slice A3 n3 c3] 34))
  have HR0 := Lib.hid (RowB.new w 34 #[.slice (some ⟨g1, 0, none⟩) s.bs.length c1, .slice A2 s.ms.length c2, .slice A3 n3 c3])
  have CC := Lib.hid (has_any (some ⟨g1, 0, none⟩) s.bs.length c1 A2 s.ms.length c2 A3 n3 c3 (i : Int) (w.alloc (.cells #[.slice (some ⟨g1, 0, none⟩) s.bs.length c1, .slice A2 s.ms.length c2, .slice A3 n3 c3] 34)))
  have hb : hasB s.bs.length (i : Int) = true := by unfold hasB; simp; omega
  rw [hb] at CC
  have HC1 := Lib.hid (show w.cell? ⟨g1, i * 4, none⟩ = some (.int .i64 bd.at_) from hc1 i bd hbd 0 _ rfl)
  have HG := Lib.hid (show g1 < w.heap.size by omega)
  have H2 := Lib.hid h2
  have HFD : Hid (foundL s i 0 = [bd.at_]) := by unfold Hid foundL; rw [hbd]; rfl
  obtain ⟨nb, hnb⟩ : ∃ nb, nb = s.bs.length := ⟨_, rfl⟩
  obtain ⟨nm, hnm⟩ : ∃ nm, nm = s.ms.length := ⟨_, rfl⟩
  have HNM := Lib.hid hnm
  rw [← hnb] at CC HB0 HR0 hil ⊢
  rw [← hnm] at CC HB0 HR0 hn ⊢
  simp only [mapv] at CC ⊢
  clear h1 h2 hc1 hbd hb hnb hnm hi0 hg1 hg2 hn1
  go_enter Try.func14, Try.ntmps14
  go_wp2_with fail
  refine CC.out.mono ?_
  rintro e w2 ⟨rfl, hb2⟩
  have HB1 := Lib.hid (HB0.out.trans (hb2.mono (by simp)))
  have HR1 := Lib.hid (HR0.out.below hb2 HR0.out.lt)
  have y1 := HR1.out.cell
  have y1b := (HR1.out.alloc (.cells #[.int .i64 bd.at_] 3)).cell
  have d0 := (HB1.out.cell (p := ⟨g1, i * 4, none⟩) HG.out).trans HC1.out
  clear hb2 CC HB0 HR0
  go_wp2_with fail
  have HOW : Hid ((w2.alloc (.cells #[.int .i64 bd.at_] 3)).ownsRow w.heap.size 3 1 (.slice (some ⟨w2.heap.size, 0, none⟩) 1 1) (foundL s i 0).length ((foundL s i 0).flatMap wiC)) := by
    rw [HFD.out]
    exact World.ownsRow_lit w2 #[.int .i64 bd.at_] 1 HB1.out.size (by simp [maxLen]) rfl
  have HBS := Lib.hid (HB1.out.trans ((belA w2 (.cells #[.int .i64 bd.at_] 3)).mono HB1.out.size))
  have HLN : Hid (∃ A c, Value.slice (some ⟨w2.heap.size, 0, none⟩) 1 1 = .slice A (foundL s i 0).length c) := ⟨_, _, by rw [HFD.out]; rfl⟩
  clear d0 y1 y1b HC1 HG
  go_loopg [5, 22] (nm + 1) (fun kx s5 s22 wr => ∃ (j : Nat), s22 = .int .i64 j ∧ nm - j ≤ kx ∧ j ≤ nm ∧ Hid (wr.ownsRow w.heap.size 3 1 s5 (foundL s i j).length ((foundL s i j).flatMap wiC)) ∧ Hid (Below w.heap.size w wr))
  case atStart => exact ⟨0, rfl, by omega, by omega, HOW.out, HBS.out⟩
  case round =>
    clear HOW HBS HLN HR1 HB1 HFD
    obtain ⟨j, rfl, hkx, hjn, HO, HB⟩ := hrel
    by_cases hj : j < nm
    · have hjl : (j : Int) < (nm : Int) := by omega
      have hj' : j < s.ms.length := by rw [← HNM.out]; exact hj
      obtain ⟨u, hu⟩ : ∃ u, s.ms[j]? = some u := ⟨s.ms[j], List.getElem?_eq_getElem hj'⟩
      obtain ⟨g, rfl, hg1, hg2, hc⟩ := H2.out (by omega)
      have hcc := fun o v hv => (HB.out.cell (p := ⟨g, j * 4 + o, none⟩) (by show g < w.heap.size; omega)).trans (hc j u hu o v hv)
      have d0 : wr.cell? ⟨g, j * 4, none⟩ = some (.int .i64 u.at_) := hcc 0 _ rfl
      have d1 : wr.cell? ⟨g, j * 4 + 1, none⟩ = some (.int .i64 u.to) := hcc 1 _ rfl
      have d2 : wr.cell? ⟨g, j * 4 + 2, none⟩ = some (.bool u.write) := hcc 2 _ rfl
      have d3 : wr.cell? ⟨g, j * 4 + 3, none⟩ = some (.int .i64 u.far) := hcc 3 _ rfl
      obtain ⟨k, hk⟩ : ∃ k, k = j + 1 := ⟨_, rfl⟩
      have ek : IntKind.i64.wrap ((j : Int) + 1) = (k : Int) := by rw [IntKind.wrap_i64]; omega
      have HK := Lib.hid hk
      have HF := found_next (i := i) hu
      have hfl := found_len s i j
      have HB2 := Lib.hid (HB.out.trans ((belA wr (.cells #[.int .i64 u.at_, .int .i64 u.to, .bool u.write, .int .i64 u.far] 47)).mono HB.out.size))
      obtain ⟨A5, n5c, he5, hc5⟩ := own_shape HO.out
      subst he5
      obtain ⟨ua, ut, uw, uf⟩ := u
      simp only at d0 d1 d2 d3 HF HB2
      by_cases hut : ut = (i : Int)
      · subst hut
        rw [if_pos rfl] at HF
        have HFF : Hid (foundL s i k = foundL s i j ++ [ua]) := by rw [hk]; exact HF
        have HO2 := HO.out.alloc (.cells #[.int .i64 ua, .int .i64 (i : Int), .bool uw, .int .i64 uf] 47)
        have HO3 := HO2.alloc (.cells #[.int .i64 ua] 3)
        have RN := RowB.new (wr.alloc (.cells #[.int .i64 ua, .int .i64 (i : Int), .bool uw, .int .i64 uf] 47)) 3 #[.int .i64 ua]
        have hs1 : (wr.alloc (.cells #[.int .i64 ua, .int .i64 (i : Int), .bool uw, .int .i64 uf] 47)).heap.size = wr.heap.size + 1 := by simp
        rw [hs1] at RN
        obtain ⟨v', w3, hr, ho, hg, hl⟩ := app_at (t := 55) (e := 3) (size := 1) (bytes := 8) (z := .int .i64 0) Try.underlying55 (by kernel_rfl) rfl (by decide) (by decide) w.heap.size _ _ _ HO3 _ _ RN rfl (by intro u hu; simp at hu; subst hu; rfl) (by omega) (by have := HB.out.size; simp; omega) 55
        have HO4 : Hid (w3.ownsRow w.heap.size 3 1 v' (foundL s i k).length ((foundL s i k).flatMap wiC)) := by
          unfold Hid
          rw [HFF.out, List.length_append, List.flatMap_append]
          simpa [wiC] using ho
        have HB4 : Hid (Below w.heap.size w w3) := (HB2.out.alloc (by have := HB.out.size; simp; omega) _).grown hg (by have := HB.out.size; simp; omega) (fun g e => (HO3.lt g e).1)
        clear hu hc hcc HF HO2 HO3 RN ho hg hl hk HO hs1 HFF
        go_wp2_with (at_builtin; refine Lib.wpList_append_run _ rfl _ _ _ _ rfl _ _ rfl rfl _ _ hr ?_)
        have hk := HK.out
        go_roundg (nm - k)
        case measure => omega
        case rel => exact ⟨k, rfl, by omega, by omega, HO4.out, HB4.out⟩
      · have hut' : (ut == (i : Int)) = false := by rw [beq_eq_false_iff_ne]; exact hut
        rw [if_neg hut] at HF
        have HO4 : Hid ((wr.alloc (.cells #[.int .i64 ua, .int .i64 ut, .bool uw, .int .i64 uf] 47)).ownsRow w.heap.size 3 1 (.slice A5 (foundL s i j).length n5c) (foundL s i k).length ((foundL s i k).flatMap wiC)) := by
          rw [hk, HF]
          exact HO.out.alloc _
        clear hu hc hcc HF hk HO hut
        go_wp2_with fail
        have hk := HK.out
        go_roundg (nm - k)
        case measure => omega
        case rel => exact ⟨k, rfl, by omega, by omega, HO4.out, HB2.out⟩
    · have hd1 : decide ((j : Int) < (nm : Int)) = false := decide_eq_false (by omega)
      obtain ⟨A5, n5c, he5, hc5⟩ := own_shape HO.out
      subst he5
      have hfl := found_len s i j
      have HFA := Lib.hid (found_all s i (j := j) (by rw [← HNM.out]; omega))
      obtain ⟨fl, hfl2⟩ : ∃ fl, fl = foundL s i j := ⟨_, rfl⟩
      have HFL : Hid (fl = usesL s i) := by rw [hfl2]; exact HFA.out
      rw [← hfl2] at HO hfl hc5
      have CS := Lib.hid (sortI_any HO.out rfl (by omega))
      have HLEN : Hid ((fl.mergeSort fun x y => decide (x ≤ y)).length = fl.length) := List.length_mergeSort _
      obtain ⟨m, hm⟩ : ∃ m, m = fl.length := ⟨_, rfl⟩
      have HMM := Lib.hid hm
      have HC5 := Lib.hid hc5
      rw [← hfl2]
      rw [← hm] at CS ⊢
      clear hfl2 hfl hm hc5 HFA
      go_wp2_with fail
      refine CS.out.mono ?_
      rintro e w3 ⟨rfl, hr, o1, o2, o3, o4, o5⟩
      have HB3 : Hid (Below w.heap.size w w3) := ⟨o1.trans HB.out.os, o2.trans HB.out.tape, o3.trans HB.out.output, Nat.le_trans HB.out.size o4, fun g hg => (o5 g (Nat.lt_of_lt_of_le hg HB.out.size) (fun e => by have := (HO.out.lt g (by rw [← HMM.out]; exact e)).1; omega)).trans (HB.out.block g hg)⟩
      have HRR := Lib.hid hr
      clear hr o1 o2 o3 o4 o5 CS HO HB
      go_wp2_with fail
      (first | go_ret | go_ret2)
      have hfin : usesS s i = fl.mergeSort fun x y => decide (x ≤ y) := by unfold usesS; rw [HFL.out]
      rw [hfin]
      exact ⟨A5, n5c, by rw [HLEN.out, ← HMM.out]; first | rfl | simp, by rw [HLEN.out]; exact HC5.out, HRR.out, HB3.out⟩
end Sc
end Go.Proofs.Ytnefnnoleeeedaa
/- Contracts: is it written; the law's example, in mathematics. -/
namespace Go.Proofs.Ytnefnnoleeeedaa
open Go.RowKit Go.Op
namespace Sc
open Vm

open Ps
/-- A node of the document's reader, as one of any numbers. -/
def hi_ (h : Hd) : Hi := ⟨h.kind, h.fro, h.til, h.word, h.at_⟩
def tr : Fo → Tr
  | .nil => .nil
  | .cons h k r => .cons (hi_ h) (tr k) (tr r)
theorem tr_len : ∀ k : Fo, (tr k).len = k.len
  | .nil => rfl
  | .cons h k r => by rw [tr, Tr.len, Fo.len, tr_len r]
/-- Are all words short enough? -/
def wordsOk : Fo → Prop
  | .nil => True
  | .cons h k r => h.word.size ≤ maxLen ∧ wordsOk k ∧ wordsOk r
theorem tc_of {w : World} {P : Nat → Prop} {B : Nat} (hP : ∀ g, P g → g < w.heap.size → g < B) : ∀ (f : Fo) (cs : List Value), wordsOk f → FC w P f cs → TC w B (tr f) cs
  | .nil, cs, _, h => by rw [FC] at h; rw [tr, TC]; exact h
  | .cons hd k r, cs, hw, h => by
    rw [FC] at h
    obtain ⟨A, cap, cs', e, hc, hk, hr⟩ := h
    rw [tr, TC]
    refine ⟨A, cap, cs', ?_, hw.1, by rw [tr_len]; exact hc, fun h0 => ?_, tc_of hP r cs' hw.2.2 hr⟩
    · rw [e, tr_len]; rfl
    · rw [tr_len] at h0
      obtain ⟨g, o, ck, e1, h1, h2, h3, h4⟩ := hk h0
      exact ⟨g, o, ck, e1, hP g h1 h2, h3, tc_of hP k ck hw.2.1 h4⟩
theorem tv_of {w : World} {P : Nat → Prop} {B : Nat} (hP : ∀ g, P g → g < w.heap.size → g < B) {f : Fo} {A : Option Addr} {cap : Nat} (hw : wordsOk f) (h : KV w P f A cap) : TV w B (tr f) A cap := by
  refine ⟨by rw [tr_len]; exact h.1, fun h0 => ?_⟩
  rw [tr_len] at h0
  obtain ⟨g, o, ck, e1, h1, h2, h3, h4⟩ := h.2 h0
  exact ⟨g, o, ck, e1, hP g h1 h2, h3, tc_of hP f ck hw h4⟩
set_option maxHeartbeats 4000000 in
set_option maxRecDepth 100000 in
theorem mentions_any {s : St} {A1 A2 A3 : Option Addr} {n1 c1 c2 n3 c3 lo hi : Nat} {w : World} (i : Int) (h2 : Sb.RowAt w lo hi mnC 4 A2 s.ms) (hh : hi ≤ w.heap.size) (hn : s.ms.length ≤ 100000000) :
    Calls Try.prog 41 #[mapv A1 n1 c1 A2 s.ms.length c2 A3 n3 c3, .int .i64 i, .func (.func 42) #[] #[]] w fun e w' => e = .returned (.bool (hasB n1 i && anyW i s.ms)) ∧ Below w.heap.size w w' := by
  obtain ⟨nm, hnm⟩ : ∃ nm, nm = s.ms.length := ⟨_, rfl⟩
  have hmf : ∀ (fn : Fn) (first cap : Array Value) (w : World), (Instr.makeFunc fn first cap).run Try.prog w = .ok (.func fn first cap) w := fun _ _ _ _ => rfl
  obtain ⟨W1, hW1⟩ : ∃ W1, W1 = ((w.alloc (.cells #[.slice A1 n1 c1, .slice A2 nm c2, .slice A3 n3 c3] 34)).alloc (.cells #[.int .i64 i] 3)).alloc (.cells #[.func (.func 42) #[] #[]] 97) := ⟨_, rfl⟩
  have B1 : Below w.heap.size w W1 := by rw [hW1]; exact ((belA w _).alloc (by simp) _).alloc (by simp; omega) _
  have r0 : RowB W1 w.heap.size 34 #[.slice A1 n1 c1, .slice A2 nm c2, .slice A3 n3 c3] := by rw [hW1]; exact ((RowB.new w 34 _).alloc _).alloc _
  have r1 : RowB W1 (w.heap.size + 1) 3 #[.int .i64 i] := by
    have := RowB.new (w.alloc (.cells #[.slice A1 n1 c1, .slice A2 nm c2, .slice A3 n3 c3] 34)) 3 #[.int .i64 i]
    rw [show (w.alloc (.cells #[.slice A1 n1 c1, .slice A2 nm c2, .slice A3 n3 c3] 34)).heap.size = w.heap.size + 1 by simp] at this
    rw [hW1]
    exact this.alloc _
  have r2 : RowB W1 (w.heap.size + 2) 97 #[.func (.func 42) #[] #[]] := by
    have := RowB.new ((w.alloc (.cells #[.slice A1 n1 c1, .slice A2 nm c2, .slice A3 n3 c3] 34)).alloc (.cells #[.int .i64 i] 3)) 97 #[.func (.func 42) #[] #[]]
    rw [show ((w.alloc (.cells #[.slice A1 n1 c1, .slice A2 nm c2, .slice A3 n3 c3] 34)).alloc (.cells #[.int .i64 i] 3)).heap.size = w.heap.size + 2 by simp] at this
    rw [hW1]
    exact this
  have CH := Lib.hid (has_any A1 n1 c1 A2 nm c2 A3 n3 c3 i W1)
  have HB1 := Lib.hid B1
  have R0 := Lib.hid r0
  have R1 := Lib.hid r1
  have R2 := Lib.hid r2
  have H2 := Lib.hid h2
  have HNM := Lib.hid hnm
  have HW1 := Lib.hid hW1
  obtain ⟨b1, hb1⟩ : ∃ b1, b1 = hasB n1 i := ⟨_, rfl⟩
  rw [← hb1] at CH ⊢
  rw [← hnm]
  rw [← hnm] at hn
  simp only [mapv] at CH ⊢
  clear B1 r0 r1 r2 h2 hnm hW1 hb1
  go_enter Try.func41, Try.ntmps41
  go_wp2_with fail
  rw [show w.heap.size + 1 + 1 = w.heap.size + 2 from rfl, ← HW1.out]
  refine CH.out.mono ?_
  rintro e w2 ⟨rfl, hb2⟩
  have HB2 := Lib.hid (HB1.out.trans (hb2.mono HB1.out.size))
  have Q0 := Lib.hid (R0.out.below hb2 R0.out.lt)
  have Q1 := Lib.hid (R1.out.below hb2 R1.out.lt)
  have Q2 := Lib.hid (R2.out.below hb2 R2.out.lt)
  clear hb2 CH HB1 R0 R1 R2 HW1
  cases b1 with
  | false =>
    go_wp2_with fail
    (first | go_ret | go_ret2)
    exact ⟨by first | rfl | simp, HB2.out⟩
  | true =>
    have y0 := Q0.out.cell
    have CC := con_any i (w.heap.size + 1) (w.heap.size + 2) w2 Q1.out Q2.out A2 c2 lo hi s.ms (H2.out.keep fun g h1 h2 => HB2.out.block g (by omega)) (Nat.le_trans hh HB2.out.size) (by rw [← HNM.out]; omega)
    rw [← HNM.out] at CC
    have CC := Lib.hid CC
    have e61 : ∀ args w, (callFunc 61 args).run Try.prog w = .ok (.enter 61 args) w := enters_of Try.func61 (by kernel_rfl) rfl
    go_wp2_with fail
    refine CC.out.mono ?_
    rintro e w3 ⟨rfl, hb3⟩
    have HB3 := Lib.hid (HB2.out.trans (hb3.mono HB2.out.size))
    clear hb3 CC y0
    go_wp2_with fail
    (first | go_ret | go_ret2)
    exact ⟨by first | rfl | simp, HB3.out⟩
set_option maxHeartbeats 4000000 in
set_option maxRecDepth 100000 in
theorem written_any {s : St} {A1 A2 A3 : Option Addr} {n1 c1 c2 n3 c3 lo hi : Nat} {w : World} (i : Int) (h2 : Sb.RowAt w lo hi mnC 4 A2 s.ms) (hh : hi ≤ w.heap.size) (hn : s.ms.length ≤ 100000000) :
    Calls Try.prog 18 #[mapv A1 n1 c1 A2 s.ms.length c2 A3 n3 c3, .int .i64 i] w fun e w' => e = .returned (.bool (hasB n1 i && anyW i s.ms)) ∧ Below w.heap.size w w' := by
  obtain ⟨W1, hW1⟩ : ∃ W1, W1 = w.alloc (.cells #[.slice A1 n1 c1, .slice A2 s.ms.length c2, .slice A3 n3 c3] 34) := ⟨_, rfl⟩
  have CM := mentions_any (A1 := A1) (A3 := A3) (n1 := n1) (c1 := c1) (c2 := c2) (n3 := n3) (c3 := c3) (w := W1) i (h2.keep fun g h1 h3 => by rw [hW1]; exact Below.heap_alloc _ _ _ (by omega)) (by rw [hW1]; simp; omega) hn
  have HB := Lib.hid (show Below w.heap.size w W1 by rw [hW1]; exact belA w _)
  obtain ⟨nm, hnm⟩ : ∃ nm, nm = s.ms.length := ⟨_, rfl⟩
  obtain ⟨bb, hbb⟩ : ∃ bb, bb = (hasB n1 i && anyW i s.ms) := ⟨_, rfl⟩
  rw [← hbb] at CM ⊢
  rw [← hnm] at CM hW1 ⊢
  have CM := Lib.hid CM
  have HW := Lib.hid hW1
  simp only [mapv] at CM ⊢
  clear h2 hnm hbb hW1
  go_enter Try.func18, Try.ntmps18
  go_wp2_with fail
  rw [← HW.out]
  refine CM.out.mono ?_
  rintro e w2 ⟨rfl, hb⟩
  have HB2 := Lib.hid (HB.out.trans (hb.mono HB.out.size))
  clear hb CM
  go_wp2_with fail
  (first | go_ret | go_ret2)
  exact ⟨by first | rfl | simp, HB2.out⟩
def awS : ByteArray := ⟨#[100, 101, 102, 32, 102, 40, 97, 41, 32, 123, 32, 108, 101, 116, 32, 98, 32, 61, 32, 97, 59, 32, 98, 32, 61, 32, 98, 32, 43, 32, 97, 59, 32, 125]⟩
def awT : List Tok := [⟨2, 0, ⟨#[]⟩, ⟨#[100, 101, 102]⟩⟩, ⟨1, 4, ⟨#[32]⟩, ⟨#[102]⟩⟩, ⟨5, 5, ⟨#[]⟩, ⟨#[40]⟩⟩, ⟨1, 6, ⟨#[]⟩, ⟨#[97]⟩⟩, ⟨5, 7, ⟨#[]⟩, ⟨#[41]⟩⟩, ⟨5, 9, ⟨#[32]⟩, ⟨#[123]⟩⟩, ⟨2, 11, ⟨#[32]⟩, ⟨#[108, 101, 116]⟩⟩, ⟨1, 15, ⟨#[32]⟩, ⟨#[98]⟩⟩, ⟨5, 17, ⟨#[32]⟩, ⟨#[61]⟩⟩, ⟨1, 19, ⟨#[32]⟩, ⟨#[97]⟩⟩, ⟨5, 20, ⟨#[]⟩, ⟨#[59]⟩⟩, ⟨1, 22, ⟨#[32]⟩, ⟨#[98]⟩⟩, ⟨5, 24, ⟨#[32]⟩, ⟨#[61]⟩⟩, ⟨1, 26, ⟨#[32]⟩, ⟨#[98]⟩⟩, ⟨5, 28, ⟨#[32]⟩, ⟨#[43]⟩⟩, ⟨1, 30, ⟨#[32]⟩, ⟨#[97]⟩⟩, ⟨5, 31, ⟨#[]⟩, ⟨#[59]⟩⟩, ⟨5, 33, ⟨#[32]⟩, ⟨#[125]⟩⟩, ⟨0, 34, ⟨#[]⟩, ⟨#[]⟩⟩]
def awH : Hd := ⟨1, 0, 18, ⟨#[]⟩, 0⟩
def awK : Fo := (.cons ⟨3, 0, 18, ⟨#[102]⟩, 1⟩ (.cons ⟨4, 2, 5, ⟨#[]⟩, 0⟩ (.cons ⟨5, 3, 4, ⟨#[97]⟩, 3⟩ (.cons ⟨0, 0, 0, ⟨#[]⟩, 0⟩ .nil .nil) .nil) (.cons ⟨0, 0, 0, ⟨#[]⟩, 0⟩ .nil (.cons ⟨6, 5, 18, ⟨#[]⟩, 0⟩ (.cons ⟨7, 6, 11, ⟨#[98]⟩, 7⟩ (.cons ⟨0, 0, 0, ⟨#[]⟩, 0⟩ .nil (.cons ⟨23, 9, 10, ⟨#[97]⟩, 9⟩ .nil .nil)) (.cons ⟨8, 11, 17, ⟨#[98]⟩, 11⟩ (.cons ⟨16, 13, 16, ⟨#[]⟩, 0⟩ (.cons ⟨23, 13, 14, ⟨#[98]⟩, 13⟩ .nil (.cons ⟨23, 15, 16, ⟨#[97]⟩, 15⟩ .nil .nil)) .nil) .nil)) .nil))) .nil)
theorem aw_lex : lexR awS = .good awT := by kernel_rfl
theorem aw_parse : Pg.parseM awT = .ok awH awK := by kernel_rfl
theorem aw_of : Pg.ofM awS = .ok awT awH awK := by
  unfold Pg.ofM
  rw [aw_lex]
  dsimp only
  rw [aw_parse]
theorem aw_words : wordsOk awK := by
  unfold awK
  simp only [wordsOk]
  refine ⟨?_, ?_⟩ <;> simp [maxLen, ByteArray.size]
theorem aw_cnt : (tr awK).cnt ≤ 100000 := by
  have : (tr awK).cnt = 13 := by kernel_rfl
  omega
/-- What the example's names are. -/
def awB : List Bd := (ofS (hi_ awH) (tr awK)).bs
theorem aw_bs : (ofS (hi_ awH) (tr awK)).bs.length = 3 := by kernel_rfl
theorem aw_ms : (ofS (hi_ awH) (tr awK)).ms.length = 4 := by kernel_rfl
theorem aw_bad : (ofS (hi_ awH) (tr awK)).bad = [] := by kernel_rfl
theorem aw_uses : (usesL (ofS (hi_ awH) (tr awK)) 2).length = 3 := by kernel_rfl
theorem aw_w2 : anyW 2 (ofS (hi_ awH) (tr awK)).ms = true := by kernel_rfl
theorem aw_w1 : anyW 1 (ofS (hi_ awH) (tr awK)).ms = false := by kernel_rfl
end Sc
end Go.Proofs.Ytnefnnoleeeedaa
/- Contracts: the law's example. -/
namespace Go.Proofs.Ytnefnnoleeeedaa
open Go.RowKit Go.Op
namespace Sc
open Ps Sb
theorem uses_len (s : St) (i : Nat) : (usesS s i).length = (usesL s i).length := List.length_mergeSort _
set_option maxHeartbeats 8000000 in
set_option maxRecDepth 100000 in
theorem awake_any (w : World) : Calls Try.prog 8 #[] w fun e w' => e = .returned (.bool true) ∧ Below w.heap.size w w' := by
  have CO := Lib.hid (Pg.rof_any awS (by decide) w)
  go_enter Try.func8, Try.ntmps8
  go_wp2_with fail
  refine CO.out.mono ?_
  rintro e w1 ⟨hb, ho⟩
  rw [aw_of] at ho
  obtain ⟨A, c, A1, c1, rfl, _, _, hk⟩ := ho
  obtain ⟨W2, hW2⟩ : ∃ W2, W2 = w1.alloc (.cells (hcc (hi_ awH) A1 awK.len c1) 25) := ⟨_, rfl⟩
  have B2 : Below w.heap.size w W2 := by rw [hW2]; exact hb.alloc hb.size _
  have hk2 : TV W2 W2.heap.size (tr awK) A1 c1 := by
    rw [hW2]
    exact tv_of (fun g _ hg => hg) aw_words (hk.below (belA w1 _))
  have CP := Lib.hid (of_any (hi_ awH) (tr awK) A1 c1 hk2 aw_cnt)
  rw [tr_len] at CP
  have HB2 := Lib.hid B2
  have HW2 := Lib.hid hW2
  obtain ⟨nk, hnk⟩ : ∃ nk, nk = awK.len := ⟨_, rfl⟩
  obtain ⟨st, hst⟩ : ∃ st, st = ofS (hi_ awH) (tr awK) := ⟨_, rfl⟩
  have F1 : Hid (st.bs.length = 3) := by rw [hst]; exact aw_bs
  have F2 : Hid (st.ms.length = 4) := by rw [hst]; exact aw_ms
  have F3 : Hid (st.bad.length = 0) := by rw [hst, aw_bad]; rfl
  have F4 : Hid ((usesS st 2).length = 3) := by unfold Hid; rw [uses_len, hst]; exact aw_uses
  have F5 : Hid (anyW 2 st.ms = true) := by rw [hst]; exact aw_w2
  have F6 : Hid (anyW 1 st.ms = false) := by rw [hst]; exact aw_w1
  rw [← hst] at CP
  rw [← hnk] at CP HW2 ⊢
  have HW2 : Hid (W2 = w1.alloc (.cells #[.int .i64 1, .int .i64 0, .int .i64 18, .string ⟨#[]⟩, .int .i64 0, .slice A1 nk c1] 25)) := HW2.out
  have CP : Hid (Calls Try.prog 10 #[.agg #[.int .i64 1, .int .i64 0, .int .i64 18, .string ⟨#[]⟩, .int .i64 0, .slice A1 nk c1]] W2 (OfA W2 st)) := CP.out
  simp only [awH]
  clear hb hk hk2 B2 hW2 hnk hst CO
  go_wp2_with fail
  rw [← HW2.out]
  refine CP.out.mono ?_
  rintro e w3 ⟨B1, d1, B2, d2, B3, d3, l3, rfl, _, hr1, hr2, _, _, _, _, _, hb3⟩
  have HB3 := Lib.hid (HB2.out.trans (hb3.mono HB2.out.size))
  obtain ⟨W4, hW4⟩ : ∃ W4, W4 = w3.alloc (.cells #[.slice B1 3 d1, .slice B2 4 d2, .slice B3 0 d3] 34) := ⟨_, rfl⟩
  have HB4 : Hid (Below w.heap.size w W4) := by rw [hW4]; exact HB3.out.alloc HB3.out.size _
  have hs4 : W4.heap.size = w3.heap.size + 1 := by rw [hW4]; simp
  have R1 := hr1.keep (w' := W4) fun g _ h => by rw [hW4]; exact Below.heap_alloc _ _ _ h
  have R2 := hr2.keep (w' := W4) fun g _ h => by rw [hW4]; exact Below.heap_alloc _ _ _ h
  have RM := Lib.hid (show RowB W4 w3.heap.size 34 #[.slice B1 3 d1, .slice B2 4 d2, .slice B3 0 d3] by rw [hW4]; exact RowB.new w3 34 _)
  have CU := uses_any (A3 := B3) (c1 := d1) (c2 := d2) (n3 := 0) (c3 := d3) (i := 2) R1 R2 (by omega) (by rw [F1.out]; decide) (by rw [F2.out]; decide) (by rw [F1.out]; decide)
  rw [F1.out, F2.out] at CU ⊢
  rw [F3.out]
  have CU := Lib.hid CU
  have HR2 := Lib.hid R2
  have HS4 := Lib.hid (show w3.heap.size ≤ W4.heap.size by omega)
  have HW4 := Lib.hid hW4
  simp only [mapv] at CU
  have y4 := RM.out.cell
  clear hr1 hr2 hb3 R1 R2 hs4 CP HW2
  have z4 := y4
  rw [hW4] at z4
  clear hW4
  go_wp2_with fail
  rw [← HW4.out]
  clear z4
  refine CU.out.mono ?_
  rintro e w5 ⟨A5, c5, rfl, hc5, _, hb5⟩
  rw [F4.out]
  have HB5 := Lib.hid (HB4.out.trans (hb5.mono HB4.out.size))
  have RM5 := Lib.hid (RM.out.below hb5 RM.out.lt)
  have R25 := Lib.hid (HR2.out.keep (w' := w5) fun g _ h => hb5.block g (by have := HS4.out; omega))
  have HS5 : Hid (w3.heap.size ≤ w5.heap.size) := Nat.le_trans HS4.out hb5.size
  have CW := written_any (A1 := B1) (A3 := B3) (n1 := 3) (c1 := d1) (c2 := d2) (n3 := 0) (c3 := d3) 2 R25.out HS5.out (by rw [F2.out]; decide)
  rw [F2.out, F5.out, show (hasB 3 2 && true) = true from rfl] at CW
  have CW := Lib.hid CW
  have y5 := RM5.out.cell
  simp only [mapv] at CW
  clear hb5 CU y4 HR2 RM HS4 HW4 HB4
  go_wp2_with fail
  refine CW.out.mono ?_
  rintro e w6 ⟨rfl, hb6⟩
  have HB6 := Lib.hid (HB5.out.trans (hb6.mono HB5.out.size))
  have RM6 := Lib.hid (RM5.out.below hb6 RM5.out.lt)
  have R26 := Lib.hid (R25.out.keep (w' := w6) fun g _ h => hb6.block g (by have := HS5.out; omega))
  have HS6 : Hid (w3.heap.size ≤ w6.heap.size) := Nat.le_trans HS5.out hb6.size
  have CV := written_any (A1 := B1) (A3 := B3) (n1 := 3) (c1 := d1) (c2 := d2) (n3 := 0) (c3 := d3) 1 R26.out HS6.out (by rw [F2.out]; decide)
  rw [F2.out, F6.out, show (hasB 3 1 && false) = false from rfl] at CV
  have CV := Lib.hid CV
  have y6 := RM6.out.cell
  simp only [mapv] at CV
  clear hb6 CW y5 RM5 R25 HS5 HB5
  go_wp2_with fail
  refine CV.out.mono ?_
  rintro e w7 ⟨rfl, hb7⟩
  have HB7 := Lib.hid (HB6.out.trans (hb7.mono HB6.out.size))
  have RM7 := Lib.hid (RM6.out.below hb7 RM6.out.lt)
  have y7 := RM7.out.cell
  clear hb7 CV y6 RM6 R26 HS6 HB6
  go_wp2_with fail
  (first | go_ret | go_ret2)
  exact ⟨by first | rfl | simp, HB7.out⟩
end Sc
end Go.Proofs.Ytnefnnoleeeedaa
