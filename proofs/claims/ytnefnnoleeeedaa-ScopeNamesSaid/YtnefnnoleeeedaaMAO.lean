import Derived.Shelf.SlGeneric
import Derived.Shelf.SortM.Plain
import Derived.Shelf.SortM.SortNone
import Derived.Ground.SlgmProg
import Derived.Laws.OwnMore
import Derived.Lib.AppendZeros
import Derived.Test.YtnefnnoleeeedaaMAN
import Derived.KernelRfl
import Derived.Test.YtnefnnoleeeedaaMAH
import Derived.Test.YtnefnnoleeeedaaMAC
import Derived.Maps.AppendAt
import Derived.Test.YtnefnnoleeeedaaMAK
import Derived.Deep.CutRange
import Derived.Deep.LoopGhost
import Derived.BigQuiet
import Derived.Laws.StructEq
namespace Go.Proofs.Ytnefnnoleeeedaa
open Go.RowKit Go.Op
namespace Sc
open Vm
def srtI_ren : Go.Shelf.Ren := ⟨fun | 5 => 32 | 8 => 52 | 7 => 51 | 19 => 80 | 20 => 81 | 10 => 71 | 11 => 72 | 12 => 73 | 13 => 74 | 14 => 75 | 15 => 76 | 16 => 77 | 17 => 78 | 18 => 79 | 30 => 88 | 31 => 89 | 32 => 90 | 33 => 91 | 34 => 92 | 35 => 48 | 40 => 97 | n => n, fun | 23 => 55 | 25 => 3 | 3 => 3 | 32 => 109 | 22 => 55 | 0 => 0 | 44 => 136 | 46 => 117 | 4 => 4 | 36 => 129 | 35 => 128 | 41 => 121 | 5 => 5 | 9 => 9 | 53 => 143 | 57 => 147 | 63 => 149 | 64 => 150 | n => n, fun | n => n⟩
theorem srtI : Go.Proofs.SlLaysM.n5 Try.prog srtI_ren := {
  mixed := by kernel_rfl
  f5 := ⟨Try.f32.name, by kernel_rfl, Try.func32.trans (congrArg some (by kernel_rfl))⟩
  f7 := ⟨Try.f51.name, by kernel_rfl, Try.func51.trans (congrArg some (by kernel_rfl))⟩
  f8 := Try.func52.trans (congrArg some (by kernel_rfl))
  f10 := ⟨Try.f71.name, by kernel_rfl, Try.func71.trans (congrArg some (by kernel_rfl))⟩
  f11 := ⟨Try.f72.name, by kernel_rfl, Try.func72.trans (congrArg some (by kernel_rfl))⟩
  f12 := ⟨Try.f73.name, by kernel_rfl, Try.func73.trans (congrArg some (by kernel_rfl))⟩
  f13 := ⟨Try.f74.name, by kernel_rfl, Try.func74.trans (congrArg some (by kernel_rfl))⟩
  f14 := ⟨Try.f75.name, by kernel_rfl, Try.func75.trans (congrArg some (by kernel_rfl))⟩
  f15 := ⟨Try.f76.name, by kernel_rfl, Try.func76.trans (congrArg some (by kernel_rfl))⟩
  f16 := ⟨Try.f77.name, by kernel_rfl, Try.func77.trans (congrArg some (by kernel_rfl))⟩
  f17 := ⟨Try.f78.name, by kernel_rfl, Try.func78.trans (congrArg some (by kernel_rfl))⟩
  f18 := ⟨Try.f79.name, by kernel_rfl, Try.func79.trans (congrArg some (by kernel_rfl))⟩
  f19 := Try.func80.trans (congrArg some (by kernel_rfl))
  f20 := Try.func81.trans (congrArg some (by kernel_rfl))
  f30 := ⟨Try.f88.name, by kernel_rfl, Try.func88.trans (congrArg some (by kernel_rfl))⟩
  f31 := Try.func89.trans (congrArg some (by kernel_rfl))
  f32 := Try.func90.trans (congrArg some (by kernel_rfl))
  f33 := ⟨Try.f91.name, by kernel_rfl, Try.func91.trans (congrArg some (by kernel_rfl))⟩
  f34 := ⟨Try.f92.name, by kernel_rfl, Try.func92.trans (congrArg some (by kernel_rfl))⟩
  f35 := ⟨Try.f48.name, by kernel_rfl, Try.func48.trans (congrArg some (by kernel_rfl))⟩
  f40 := ⟨Try.f97.name, by kernel_rfl, Try.func97.trans (congrArg some (by kernel_rfl))⟩
  t0 := Try.underlying0
  a0 := Try.isAgg0
  z0 := Try.sizeOf0
  v0 := Try.zeroValue0
  t3 := Try.underlying3
  a3 := Try.isAgg3
  z3 := Try.sizeOf3
  v3 := Try.zeroValue3
  t4 := Try.underlying4
  a4 := Try.isAgg4
  z4 := Try.sizeOf4
  v4 := Try.zeroValue4
  t5 := Try.underlying5
  a5 := Try.isAgg5
  z5 := Try.sizeOf5
  v5 := Try.zeroValue5
  t9 := Try.underlying9
  a9 := Try.isAgg9
  z9 := Try.sizeOf9
  v9 := Try.zeroValue9
  t22 := Try.underlying55
  a22 := Try.isAgg55
  z22 := Try.sizeOf55
  v22 := Try.zeroValue55
  t23 := Try.underlying55
  a23 := Try.isAgg55
  z23 := Try.sizeOf55
  v23 := Try.zeroValue55
  t25 := Try.underlying3
  a25 := Try.isAgg3
  z25 := Try.sizeOf3
  v25 := Try.zeroValue3
  t32 := Try.underlying109
  a32 := Try.isAgg109
  z32 := Try.sizeOf109
  v32 := Try.zeroValue109
  t35 := Try.underlying128
  a35 := Try.isAgg128
  z35 := Try.sizeOf128
  v35 := Try.zeroValue128
  t36 := Try.underlying129
  a36 := Try.isAgg129
  z36 := Try.sizeOf129
  v36 := Try.zeroValue129
  t41 := Try.underlying121
  a41 := Try.isAgg121
  z41 := Try.sizeOf121
  v41 := Try.zeroValue121
  t44 := Try.underlying136
  a44 := Try.isAgg136
  z44 := Try.sizeOf136
  v44 := Try.zeroValue136
  t46 := Try.underlying117
  a46 := Try.isAgg117
  z46 := Try.sizeOf117
  v46 := Try.zeroValue117
  t53 := Try.underlying143
  a53 := Try.isAgg143
  z53 := Try.sizeOf143
  v53 := Try.zeroValue143
  t57 := Try.underlying147
  a57 := Try.isAgg147
  z57 := Try.sizeOf147
  v57 := Try.zeroValue147
  t63 := Try.underlying149
  a63 := Try.isAgg149
  z63 := Try.sizeOf149
  v63 := Try.zeroValue149
  t64 := Try.underlying150
  a64 := Try.isAgg150
  z64 := Try.sizeOf150
  v64 := Try.zeroValue150 }
open Sb Go.Sort Go.Proofs Go.Shelf in
theorem sortI_any {w : World} {B n c : Nat} {A : Option Addr} {l : List Int} (h : w.ownsRow B 3 1 (.slice A n c) n (l.flatMap wiC)) (hn : n = l.length) (hl : l.length ≤ 1000000000) :
    Calls Try.prog 32 #[.slice A n c] w fun e w' => e = .returned (.tuple #[]) ∧ RowAt w' B w'.heap.size wiC 1 A (l.mergeSort fun x y => decide (x ≤ y)) ∧ w'.os = w.os ∧ w'.tape = w.tape ∧ w'.output = w.output ∧ w.heap.size ≤ w'.heap.size ∧ ∀ k, k < w.heap.size → (Value.slice A n c).ownBlock ≠ some k → w'.heap[k]? = w.heap[k]? := by
  subst hn
  by_cases h0 : l = []
  · subst h0
    have cc := AnyM.slices_Sort_int_none srtI A c w
    change Calls Try.prog 32 _ _ _ at cc
    refine cc.mono ?_
    rintro e w' ⟨rfl, rfl⟩
    exact ⟨rfl, fun h => by simp at h, rfl, rfl, rfl, Nat.le_refl _, fun _ _ _ => rfl⟩
  · have hlen : 0 < l.length := List.length_pos_iff.2 h0
    obtain ⟨x, hx⟩ : ∃ x, l[0]? = some x := ⟨l[0], List.getElem?_eq_getElem hlen⟩
    obtain ⟨g, c', e1, _, hg, hob, _⟩ := row_get h (fun _ => rfl) hx rfl
    have hlo := (h.lt g hob).1
    rw [hob]
    injection e1 with e1 _ e3
    subst e1 e3
    have hH : Holds (Value.int .i64) w g 0 l.toArray := fun j hj => by
      have hj' : j < l.length := by simpa using hj
      obtain ⟨g', c', e2, _, _, _, hc⟩ := row_get h (fun _ => rfl) (List.getElem?_eq_getElem hj') rfl
      injection e2 with e2 _ _
      injection e2 with e2
      injection e2 with e2
      subst e2
      refine ⟨?_, h.frozenAt (0 + j)⟩
      have := hc 0 (.int .i64 l[j]) rfl
      rw [getElem!_pos l.toArray j hj]
      simpa using this
    have cc := AnyM.slices_Sort_int srtI g 0 c l w hH hg (by omega)
    change Calls Try.prog 32 _ _ _ at cc
    refine cc.mono ?_
    rintro e w' ⟨rfl, n, os, rfl⟩
    have hlm : (l.mergeSort fun x y => decide (x ≤ y)).length = l.length := List.length_mergeSort _
    have hH2 := holds_grow (Value.int .i64) (putRow (Value.int .i64) (Go.Sort.ahead w n) g 0 (l.mergeSort fun x y => decide (x ≤ y)).toArray) os g 0 (l.mergeSort fun x y => decide (x ≤ y)).toArray (by simpa [putRow, mapBlock, Go.Sort.ahead] using hg) (holds_putRow (Value.int .i64) (Go.Sort.ahead w n) g 0 l.toArray _ (fun j hj => hH j hj) (by simp))
    refine ⟨rfl, fun _ => ⟨g, rfl, hlo, ?_, fun i x hx j u hj => ?_⟩, rfl, rfl, rfl, ?_, fun k hk hne => ?_⟩
    · simp [Go.Sort.grow, putRow, mapBlock, Go.Sort.ahead]; omega
    · have hi := (List.getElem?_eq_some_iff.1 hx).1
      have := (hH2 i (by simpa using hi)).1
      rw [getElem!_pos _ i (by simpa using hi)] at this
      rcases j with _ | j
      · simp only [List.getElem?_cons_zero, Option.some.injEq] at hj
        subst hj
        have e : (l.mergeSort fun x y => decide (x ≤ y)).toArray[i]'(by simpa using hi) = x := by
          rw [List.getElem?_eq_getElem hi] at hx
          simpa using Option.some.inj hx
        rw [e] at this
        simpa using this
      · simp at hj
    · simp [Go.Sort.grow, putRow, mapBlock, Go.Sort.ahead]
    · unfold Go.Sort.grow putRow mapBlock Go.Sort.ahead
      have h1 : k < (w.heap.modify g (onCells (putCells (Value.int .i64) 0 (l.mergeSort fun x y => decide (x ≤ y)).toArray))).size := by simp; omega
      simp only [Array.getElem?_append, h1, if_true, Array.getElem?_modify]
      rw [if_neg (fun e => hne (by rw [e]))]
open Sb
def usesL (s : St) (i : Nat) : List Int := ((s.bs[i]?).map Bd.at_).getD 0 :: (s.ms.filter fun u => u.to == (i : Int)).map Mn.at_
def usesS (s : St) (i : Nat) : List Int := (usesL s i).mergeSort fun x y => decide (x ≤ y)
def UsesA (w : World) (l : List Int) (e : Ending) (w' : World) : Prop := ∃ A c, e = .returned (.slice A l.length c) ∧ l.length ≤ c ∧ RowAt w' w.heap.size w'.heap.size wiC 1 A l ∧ Below w.heap.size w w'
def foundL (s : St) (i j : Nat) : List Int := ((s.bs[i]?).map Bd.at_).getD 0 :: ((s.ms.take j).filter fun u => u.to == (i : Int)).map Mn.at_
theorem found_all (s : St) (i : Nat) {j : Nat} (h : s.ms.length ≤ j) : foundL s i j = usesL s i := by unfold foundL usesL; rw [List.take_of_length_le h]
theorem found_len (s : St) (i j : Nat) : (foundL s i j).length ≤ j + 1 := by
  unfold foundL
  rw [List.length_cons, List.length_map]
  have h1 := List.length_filter_le (fun u : Mn => u.to == (i : Int)) (s.ms.take j)
  have h2 : (s.ms.take j).length ≤ j := by rw [List.length_take]; omega
  omega
theorem found_next {s : St} {i j : Nat} {u : Mn} (h : s.ms[j]? = some u) : foundL s i (j + 1) = if u.to = (i : Int) then foundL s i j ++ [u.at_] else foundL s i j := by
  unfold foundL
  rw [List.take_add_one, h]
  simp only [Option.toList_some, List.filter_append, List.map_append]
  split
  · rename_i e
    rw [List.filter_cons_of_pos (by simp [e])]
    simp
  · rename_i e
    rw [List.filter_cons_of_neg (by simp [e])]
    simp
set_option maxHeartbeats 16000000 in
set_option maxRecDepth 100000 in
theorem uses_any {s : St} {A1 A2 A3 : Option Addr} {c1 c2 n3 c3 lo hi i : Nat} {w : World} (h1 : RowAt w lo hi bdC 4 A1 s.bs) (h2 : RowAt w lo hi mnC 4 A2 s.ms) (hh : hi ≤ w.heap.size) (hi0 : i < s.bs.length) (hn : s.ms.length ≤ 100000000) (hn1 : s.bs.length ≤ 100000000) :
    Calls Try.prog 14 #[mapv A1 s.bs.length c1 A2 s.ms.length c2 A3 n3 c3, .int .i64 (i : Int)] w (UsesA w (usesS s i)) := by
  obtain ⟨bd, hbd⟩ : ∃ bd, s.bs[i]? = some bd := ⟨s.bs[i], List.getElem?_eq_getElem hi0⟩
  obtain ⟨g1, rfl, hg1, hg2, hc1⟩ := h1 (by omega)
  have hil : (i : Int) < (s.bs.length : Int) := by omega
  have HB0 := Lib.hid (belA w (.cells #[.slice (some ⟨g1, 0, none⟩) s.bs.length c1, .slice A2 s.ms.length c2, .slice A3 n3 c3] 34))
  have HR0 := Lib.hid (RowB.new w 34 #[.slice (some ⟨g1, 0, none⟩) s.bs.length c1, .slice A2 s.ms.length c2, .slice A3 n3 c3])
  have CC := Lib.hid (has_any (some ⟨g1, 0, none⟩) s.bs.length c1 A2 s.ms.length c2 A3 n3 c3 (i : Int) (w.alloc (.cells #[.slice (some ⟨g1, 0, none⟩) s.bs.length c1, .slice A2 s.ms.length c2, .slice A3 n3 c3] 34)))
  have hb : hasB s.bs.length (i : Int) = true := by unfold hasB; simp; omega
  rw [hb] at CC
  have HC1 := Lib.hid (show w.cell? ⟨g1, i * 4, none⟩ = some (.int .i64 bd.at_) from hc1 i bd hbd 0 _ rfl)
  have HG := Lib.hid (show g1 < w.heap.size by omega)
  have H2 := Lib.hid h2
  have HFD : Hid (foundL s i 0 = [bd.at_]) := by unfold Hid foundL; rw [hbd]; rfl
  obtain ⟨nb, hnb⟩ : ∃ nb, nb = s.bs.length := ⟨_, rfl⟩
  obtain ⟨nm, hnm⟩ : ∃ nm, nm = s.ms.length := ⟨_, rfl⟩
  have HNM := Lib.hid hnm
  rw [← hnb] at CC HB0 HR0 hil ⊢
  rw [← hnm] at CC HB0 HR0 hn ⊢
  simp only [mapv] at CC ⊢
  clear h1 h2 hc1 hbd hb hnb hnm hi0 hg1 hg2 hn1
  go_enter Try.func14, Try.ntmps14
  go_wp2_with fail
  refine CC.out.mono ?_
  rintro e w2 ⟨rfl, hb2⟩
  have HB1 := Lib.hid (HB0.out.trans (hb2.mono (by simp)))
  have HR1 := Lib.hid (HR0.out.below hb2 HR0.out.lt)
  have y1 := HR1.out.cell
  have y1b := (HR1.out.alloc (.cells #[.int .i64 bd.at_] 3)).cell
  have d0 := (HB1.out.cell (p := ⟨g1, i * 4, none⟩) HG.out).trans HC1.out
  clear hb2 CC HB0 HR0
  go_wp2_with fail
  have HOW : Hid ((w2.alloc (.cells #[.int .i64 bd.at_] 3)).ownsRow w.heap.size 3 1 (.slice (some ⟨w2.heap.size, 0, none⟩) 1 1) (foundL s i 0).length ((foundL s i 0).flatMap wiC)) := by
    rw [HFD.out]
    exact World.ownsRow_lit w2 #[.int .i64 bd.at_] 1 HB1.out.size (by simp [maxLen]) rfl
  have HBS := Lib.hid (HB1.out.trans ((belA w2 (.cells #[.int .i64 bd.at_] 3)).mono HB1.out.size))
  have HLN : Hid (∃ A c, Value.slice (some ⟨w2.heap.size, 0, none⟩) 1 1 = .slice A (foundL s i 0).length c) := ⟨_, _, by rw [HFD.out]; rfl⟩
  clear d0 y1 y1b HC1 HG
  go_loopg [5, 22] (nm + 1) (fun kx s5 s22 wr => ∃ (j : Nat), s22 = .int .i64 j ∧ nm - j ≤ kx ∧ j ≤ nm ∧ Hid (wr.ownsRow w.heap.size 3 1 s5 (foundL s i j).length ((foundL s i j).flatMap wiC)) ∧ Hid (Below w.heap.size w wr))
  case atStart => exact ⟨0, rfl, by omega, by omega, HOW.out, HBS.out⟩
  case round =>
    clear HOW HBS HLN HR1 HB1 HFD
    obtain ⟨j, rfl, hkx, hjn, HO, HB⟩ := hrel
    by_cases hj : j < nm
    · have hjl : (j : Int) < (nm : Int) := by omega
      have hj' : j < s.ms.length := by rw [← HNM.out]; exact hj
      obtain ⟨u, hu⟩ : ∃ u, s.ms[j]? = some u := ⟨s.ms[j], List.getElem?_eq_getElem hj'⟩
      obtain ⟨g, rfl, hg1, hg2, hc⟩ := H2.out (by omega)
      have hcc := fun o v hv => (HB.out.cell (p := ⟨g, j * 4 + o, none⟩) (by show g < w.heap.size; omega)).trans (hc j u hu o v hv)
      have d0 : wr.cell? ⟨g, j * 4, none⟩ = some (.int .i64 u.at_) := hcc 0 _ rfl
      have d1 : wr.cell? ⟨g, j * 4 + 1, none⟩ = some (.int .i64 u.to) := hcc 1 _ rfl
      have d2 : wr.cell? ⟨g, j * 4 + 2, none⟩ = some (.bool u.write) := hcc 2 _ rfl
      have d3 : wr.cell? ⟨g, j * 4 + 3, none⟩ = some (.int .i64 u.far) := hcc 3 _ rfl
      obtain ⟨k, hk⟩ : ∃ k, k = j + 1 := ⟨_, rfl⟩
      have ek : IntKind.i64.wrap ((j : Int) + 1) = (k : Int) := by rw [IntKind.wrap_i64]; omega
      have HK := Lib.hid hk
      have HF := found_next (i := i) hu
      have hfl := found_len s i j
      have HB2 := Lib.hid (HB.out.trans ((belA wr (.cells #[.int .i64 u.at_, .int .i64 u.to, .bool u.write, .int .i64 u.far] 47)).mono HB.out.size))
      obtain ⟨A5, n5c, he5, hc5⟩ := own_shape HO.out
      subst he5
      obtain ⟨ua, ut, uw, uf⟩ := u
      simp only at d0 d1 d2 d3 HF HB2
      by_cases hut : ut = (i : Int)
      · subst hut
        rw [if_pos rfl] at HF
        have HFF : Hid (foundL s i k = foundL s i j ++ [ua]) := by rw [hk]; exact HF
        have HO2 := HO.out.alloc (.cells #[.int .i64 ua, .int .i64 (i : Int), .bool uw, .int .i64 uf] 47)
        have HO3 := HO2.alloc (.cells #[.int .i64 ua] 3)
        have RN := RowB.new (wr.alloc (.cells #[.int .i64 ua, .int .i64 (i : Int), .bool uw, .int .i64 uf] 47)) 3 #[.int .i64 ua]
        have hs1 : (wr.alloc (.cells #[.int .i64 ua, .int .i64 (i : Int), .bool uw, .int .i64 uf] 47)).heap.size = wr.heap.size + 1 := by simp
        rw [hs1] at RN
        obtain ⟨v', w3, hr, ho, hg, hl⟩ := app_at (t := 55) (e := 3) (size := 1) (bytes := 8) (z := .int .i64 0) Try.underlying55 (by kernel_rfl) rfl (by decide) (by decide) w.heap.size _ _ _ HO3 _ _ RN rfl (by intro u hu; simp at hu; subst hu; rfl) (by omega) (by have := HB.out.size; simp; omega) 55
        have HO4 : Hid (w3.ownsRow w.heap.size 3 1 v' (foundL s i k).length ((foundL s i k).flatMap wiC)) := by
          unfold Hid
          rw [HFF.out, List.length_append, List.flatMap_append]
          simpa [wiC] using ho
        have HB4 : Hid (Below w.heap.size w w3) := (HB2.out.alloc (by have := HB.out.size; simp; omega) _).grown hg (by have := HB.out.size; simp; omega) (fun g e => (HO3.lt g e).1)
        clear hu hc hcc HF HO2 HO3 RN ho hg hl hk HO hs1 HFF
        go_wp2_with (at_builtin; refine Lib.wpList_append_run _ rfl _ _ _ _ rfl _ _ rfl rfl _ _ hr ?_)
        have hk := HK.out
        go_roundg (nm - k)
        case measure => omega
        case rel => exact ⟨k, rfl, by omega, by omega, HO4.out, HB4.out⟩
      · have hut' : (ut == (i : Int)) = false := by rw [beq_eq_false_iff_ne]; exact hut
        rw [if_neg hut] at HF
        have HO4 : Hid ((wr.alloc (.cells #[.int .i64 ua, .int .i64 ut, .bool uw, .int .i64 uf] 47)).ownsRow w.heap.size 3 1 (.slice A5 (foundL s i j).length n5c) (foundL s i k).length ((foundL s i k).flatMap wiC)) := by
          rw [hk, HF]
          exact HO.out.alloc _
        clear hu hc hcc HF hk HO hut
        go_wp2_with fail
        have hk := HK.out
        go_roundg (nm - k)
        case measure => omega
        case rel => exact ⟨k, rfl, by omega, by omega, HO4.out, HB2.out⟩
    · have hd1 : decide ((j : Int) < (nm : Int)) = false := decide_eq_false (by omega)
      obtain ⟨A5, n5c, he5, hc5⟩ := own_shape HO.out
      subst he5
      have hfl := found_len s i j
      have HFA := Lib.hid (found_all s i (j := j) (by rw [← HNM.out]; omega))
      obtain ⟨fl, hfl2⟩ : ∃ fl, fl = foundL s i j := ⟨_, rfl⟩
      have HFL : Hid (fl = usesL s i) := by rw [hfl2]; exact HFA.out
      rw [← hfl2] at HO hfl hc5
      have CS := Lib.hid (sortI_any HO.out rfl (by omega))
      have HLEN : Hid ((fl.mergeSort fun x y => decide (x ≤ y)).length = fl.length) := List.length_mergeSort _
      obtain ⟨m, hm⟩ : ∃ m, m = fl.length := ⟨_, rfl⟩
      have HMM := Lib.hid hm
      have HC5 := Lib.hid hc5
      rw [← hfl2]
      rw [← hm] at CS ⊢
      clear hfl2 hfl hm hc5 HFA
      go_wp2_with fail
      refine CS.out.mono ?_
      rintro e w3 ⟨rfl, hr, o1, o2, o3, o4, o5⟩
      have HB3 : Hid (Below w.heap.size w w3) := ⟨o1.trans HB.out.os, o2.trans HB.out.tape, o3.trans HB.out.output, Nat.le_trans HB.out.size o4, fun g hg => (o5 g (Nat.lt_of_lt_of_le hg HB.out.size) (fun e => by have := (HO.out.lt g (by rw [← HMM.out]; exact e)).1; omega)).trans (HB.out.block g hg)⟩
      have HRR := Lib.hid hr
      clear hr o1 o2 o3 o4 o5 CS HO HB
      go_wp2_with fail
      (first | go_ret | go_ret2)
      have hfin : usesS s i = fl.mergeSort fun x y => decide (x ≤ y) := by unfold usesS; rw [HFL.out]
      rw [hfin]
      exact ⟨A5, n5c, by rw [HLEN.out, ← HMM.out]; first | rfl | simp, by rw [HLEN.out]; exact HC5.out, HRR.out, HB3.out⟩
end Sc
end Go.Proofs.Ytnefnnoleeeedaa
namespace Go.Proofs.Ytnefnnoleeeedaa
open Go.RowKit Go.Op
namespace Sc
open Vm
open Ps
def hi_ (h : Hd) : Hi := ⟨h.kind, h.fro, h.til, h.word, h.at_⟩
def tr : Fo → Tr
  | .nil => .nil
  | .cons h k r => .cons (hi_ h) (tr k) (tr r)
theorem tr_len : ∀ k : Fo, (tr k).len = k.len
  | .nil => rfl
  | .cons h k r => by rw [tr, Tr.len, Fo.len, tr_len r]
def wordsOk : Fo → Prop
  | .nil => True
  | .cons h k r => h.word.size ≤ maxLen ∧ wordsOk k ∧ wordsOk r
theorem tc_of {w : World} {P : Nat → Prop} {B : Nat} (hP : ∀ g, P g → g < w.heap.size → g < B) : ∀ (f : Fo) (cs : List Value), wordsOk f → FC w P f cs → TC w B (tr f) cs
  | .nil, cs, _, h => by rw [FC] at h; rw [tr, TC]; exact h
  | .cons hd k r, cs, hw, h => by
    rw [FC] at h
    obtain ⟨A, cap, cs', e, hc, hk, hr⟩ := h
    rw [tr, TC]
    refine ⟨A, cap, cs', ?_, hw.1, by rw [tr_len]; exact hc, fun h0 => ?_, tc_of hP r cs' hw.2.2 hr⟩
    · rw [e, tr_len]; rfl
    · rw [tr_len] at h0
      obtain ⟨g, o, ck, e1, h1, h2, h3, h4⟩ := hk h0
      exact ⟨g, o, ck, e1, hP g h1 h2, h3, tc_of hP k ck hw.2.1 h4⟩
theorem tv_of {w : World} {P : Nat → Prop} {B : Nat} (hP : ∀ g, P g → g < w.heap.size → g < B) {f : Fo} {A : Option Addr} {cap : Nat} (hw : wordsOk f) (h : KV w P f A cap) : TV w B (tr f) A cap := by
  refine ⟨by rw [tr_len]; exact h.1, fun h0 => ?_⟩
  rw [tr_len] at h0
  obtain ⟨g, o, ck, e1, h1, h2, h3, h4⟩ := h.2 h0
  exact ⟨g, o, ck, e1, hP g h1 h2, h3, tc_of hP f ck hw h4⟩
set_option maxHeartbeats 4000000 in
set_option maxRecDepth 100000 in
theorem mentions_any {s : St} {A1 A2 A3 : Option Addr} {n1 c1 c2 n3 c3 lo hi : Nat} {w : World} (i : Int) (h2 : Sb.RowAt w lo hi mnC 4 A2 s.ms) (hh : hi ≤ w.heap.size) (hn : s.ms.length ≤ 100000000) :
    Calls Try.prog 41 #[mapv A1 n1 c1 A2 s.ms.length c2 A3 n3 c3, .int .i64 i, .func (.func 42) #[] #[]] w fun e w' => e = .returned (.bool (hasB n1 i && anyW i s.ms)) ∧ Below w.heap.size w w' := by
  obtain ⟨nm, hnm⟩ : ∃ nm, nm = s.ms.length := ⟨_, rfl⟩
  have hmf : ∀ (fn : Fn) (first cap : Array Value) (w : World), (Instr.makeFunc fn first cap).run Try.prog w = .ok (.func fn first cap) w := fun _ _ _ _ => rfl
  obtain ⟨W1, hW1⟩ : ∃ W1, W1 = ((w.alloc (.cells #[.slice A1 n1 c1, .slice A2 nm c2, .slice A3 n3 c3] 34)).alloc (.cells #[.int .i64 i] 3)).alloc (.cells #[.func (.func 42) #[] #[]] 97) := ⟨_, rfl⟩
  have B1 : Below w.heap.size w W1 := by rw [hW1]; exact ((belA w _).alloc (by simp) _).alloc (by simp; omega) _
  have r0 : RowB W1 w.heap.size 34 #[.slice A1 n1 c1, .slice A2 nm c2, .slice A3 n3 c3] := by rw [hW1]; exact ((RowB.new w 34 _).alloc _).alloc _
  have r1 : RowB W1 (w.heap.size + 1) 3 #[.int .i64 i] := by
    have := RowB.new (w.alloc (.cells #[.slice A1 n1 c1, .slice A2 nm c2, .slice A3 n3 c3] 34)) 3 #[.int .i64 i]
    rw [show (w.alloc (.cells #[.slice A1 n1 c1, .slice A2 nm c2, .slice A3 n3 c3] 34)).heap.size = w.heap.size + 1 by simp] at this
    rw [hW1]
    exact this.alloc _
  have r2 : RowB W1 (w.heap.size + 2) 97 #[.func (.func 42) #[] #[]] := by
    have := RowB.new ((w.alloc (.cells #[.slice A1 n1 c1, .slice A2 nm c2, .slice A3 n3 c3] 34)).alloc (.cells #[.int .i64 i] 3)) 97 #[.func (.func 42) #[] #[]]
    rw [show ((w.alloc (.cells #[.slice A1 n1 c1, .slice A2 nm c2, .slice A3 n3 c3] 34)).alloc (.cells #[.int .i64 i] 3)).heap.size = w.heap.size + 2 by simp] at this
    rw [hW1]
    exact this
  have CH := Lib.hid (has_any A1 n1 c1 A2 nm c2 A3 n3 c3 i W1)
  have HB1 := Lib.hid B1
  have R0 := Lib.hid r0
  have R1 := Lib.hid r1
  have R2 := Lib.hid r2
  have H2 := Lib.hid h2
  have HNM := Lib.hid hnm
  have HW1 := Lib.hid hW1
  obtain ⟨b1, hb1⟩ : ∃ b1, b1 = hasB n1 i := ⟨_, rfl⟩
  rw [← hb1] at CH ⊢
  rw [← hnm]
  rw [← hnm] at hn
  simp only [mapv] at CH ⊢
  clear B1 r0 r1 r2 h2 hnm hW1 hb1
  go_enter Try.func41, Try.ntmps41
  go_wp2_with fail
  rw [show w.heap.size + 1 + 1 = w.heap.size + 2 from rfl, ← HW1.out]
  refine CH.out.mono ?_
  rintro e w2 ⟨rfl, hb2⟩
  have HB2 := Lib.hid (HB1.out.trans (hb2.mono HB1.out.size))
  have Q0 := Lib.hid (R0.out.below hb2 R0.out.lt)
  have Q1 := Lib.hid (R1.out.below hb2 R1.out.lt)
  have Q2 := Lib.hid (R2.out.below hb2 R2.out.lt)
  clear hb2 CH HB1 R0 R1 R2 HW1
  cases b1 with
  | false =>
    go_wp2_with fail
    (first | go_ret | go_ret2)
    exact ⟨by first | rfl | simp, HB2.out⟩
  | true =>
    have y0 := Q0.out.cell
    have CC := con_any i (w.heap.size + 1) (w.heap.size + 2) w2 Q1.out Q2.out A2 c2 lo hi s.ms (H2.out.keep fun g h1 h2 => HB2.out.block g (by omega)) (Nat.le_trans hh HB2.out.size) (by rw [← HNM.out]; omega)
    rw [← HNM.out] at CC
    have CC := Lib.hid CC
    have e61 : ∀ args w, (callFunc 61 args).run Try.prog w = .ok (.enter 61 args) w := enters_of Try.func61 (by kernel_rfl) rfl
    go_wp2_with fail
    refine CC.out.mono ?_
    rintro e w3 ⟨rfl, hb3⟩
    have HB3 := Lib.hid (HB2.out.trans (hb3.mono HB2.out.size))
    clear hb3 CC y0
    go_wp2_with fail
    (first | go_ret | go_ret2)
    exact ⟨by first | rfl | simp, HB3.out⟩
set_option maxHeartbeats 4000000 in
set_option maxRecDepth 100000 in
theorem written_any {s : St} {A1 A2 A3 : Option Addr} {n1 c1 c2 n3 c3 lo hi : Nat} {w : World} (i : Int) (h2 : Sb.RowAt w lo hi mnC 4 A2 s.ms) (hh : hi ≤ w.heap.size) (hn : s.ms.length ≤ 100000000) :
    Calls Try.prog 18 #[mapv A1 n1 c1 A2 s.ms.length c2 A3 n3 c3, .int .i64 i] w fun e w' => e = .returned (.bool (hasB n1 i && anyW i s.ms)) ∧ Below w.heap.size w w' := by
  obtain ⟨W1, hW1⟩ : ∃ W1, W1 = w.alloc (.cells #[.slice A1 n1 c1, .slice A2 s.ms.length c2, .slice A3 n3 c3] 34) := ⟨_, rfl⟩
  have CM := mentions_any (A1 := A1) (A3 := A3) (n1 := n1) (c1 := c1) (c2 := c2) (n3 := n3) (c3 := c3) (w := W1) i (h2.keep fun g h1 h3 => by rw [hW1]; exact Below.heap_alloc _ _ _ (by omega)) (by rw [hW1]; simp; omega) hn
  have HB := Lib.hid (show Below w.heap.size w W1 by rw [hW1]; exact belA w _)
  obtain ⟨nm, hnm⟩ : ∃ nm, nm = s.ms.length := ⟨_, rfl⟩
  obtain ⟨bb, hbb⟩ : ∃ bb, bb = (hasB n1 i && anyW i s.ms) := ⟨_, rfl⟩
  rw [← hbb] at CM ⊢
  rw [← hnm] at CM hW1 ⊢
  have CM := Lib.hid CM
  have HW := Lib.hid hW1
  simp only [mapv] at CM ⊢
  clear h2 hnm hbb hW1
  go_enter Try.func18, Try.ntmps18
  go_wp2_with fail
  rw [← HW.out]
  refine CM.out.mono ?_
  rintro e w2 ⟨rfl, hb⟩
  have HB2 := Lib.hid (HB.out.trans (hb.mono HB.out.size))
  clear hb CM
  go_wp2_with fail
  (first | go_ret | go_ret2)
  exact ⟨by first | rfl | simp, HB2.out⟩
def awS : ByteArray := ⟨#[100, 101, 102, 32, 102, 40, 97, 41, 32, 123, 32, 108, 101, 116, 32, 98, 32, 61, 32, 97, 59, 32, 98, 32, 61, 32, 98, 32, 43, 32, 97, 59, 32, 125]⟩
def awT : List Tok := [⟨2, 0, ⟨#[]⟩, ⟨#[100, 101, 102]⟩⟩, ⟨1, 4, ⟨#[32]⟩, ⟨#[102]⟩⟩, ⟨5, 5, ⟨#[]⟩, ⟨#[40]⟩⟩, ⟨1, 6, ⟨#[]⟩, ⟨#[97]⟩⟩, ⟨5, 7, ⟨#[]⟩, ⟨#[41]⟩⟩, ⟨5, 9, ⟨#[32]⟩, ⟨#[123]⟩⟩, ⟨2, 11, ⟨#[32]⟩, ⟨#[108, 101, 116]⟩⟩, ⟨1, 15, ⟨#[32]⟩, ⟨#[98]⟩⟩, ⟨5, 17, ⟨#[32]⟩, ⟨#[61]⟩⟩, ⟨1, 19, ⟨#[32]⟩, ⟨#[97]⟩⟩, ⟨5, 20, ⟨#[]⟩, ⟨#[59]⟩⟩, ⟨1, 22, ⟨#[32]⟩, ⟨#[98]⟩⟩, ⟨5, 24, ⟨#[32]⟩, ⟨#[61]⟩⟩, ⟨1, 26, ⟨#[32]⟩, ⟨#[98]⟩⟩, ⟨5, 28, ⟨#[32]⟩, ⟨#[43]⟩⟩, ⟨1, 30, ⟨#[32]⟩, ⟨#[97]⟩⟩, ⟨5, 31, ⟨#[]⟩, ⟨#[59]⟩⟩, ⟨5, 33, ⟨#[32]⟩, ⟨#[125]⟩⟩, ⟨0, 34, ⟨#[]⟩, ⟨#[]⟩⟩]
def awH : Hd := ⟨1, 0, 18, ⟨#[]⟩, 0⟩
def awK : Fo := (.cons ⟨3, 0, 18, ⟨#[102]⟩, 1⟩ (.cons ⟨4, 2, 5, ⟨#[]⟩, 0⟩ (.cons ⟨5, 3, 4, ⟨#[97]⟩, 3⟩ (.cons ⟨0, 0, 0, ⟨#[]⟩, 0⟩ .nil .nil) .nil) (.cons ⟨0, 0, 0, ⟨#[]⟩, 0⟩ .nil (.cons ⟨6, 5, 18, ⟨#[]⟩, 0⟩ (.cons ⟨7, 6, 11, ⟨#[98]⟩, 7⟩ (.cons ⟨0, 0, 0, ⟨#[]⟩, 0⟩ .nil (.cons ⟨23, 9, 10, ⟨#[97]⟩, 9⟩ .nil .nil)) (.cons ⟨8, 11, 17, ⟨#[98]⟩, 11⟩ (.cons ⟨16, 13, 16, ⟨#[]⟩, 0⟩ (.cons ⟨23, 13, 14, ⟨#[98]⟩, 13⟩ .nil (.cons ⟨23, 15, 16, ⟨#[97]⟩, 15⟩ .nil .nil)) .nil) .nil)) .nil))) .nil)
theorem aw_lex : lexR awS = .good awT := by kernel_rfl
theorem aw_parse : Pg.parseM awT = .ok awH awK := by kernel_rfl
theorem aw_of : Pg.ofM awS = .ok awT awH awK := by
  unfold Pg.ofM
  rw [aw_lex]
  dsimp only
  rw [aw_parse]
theorem aw_words : wordsOk awK := by
  unfold awK
  simp only [wordsOk]
  refine ⟨?_, ?_⟩ <;> simp [maxLen, ByteArray.size]
theorem aw_cnt : (tr awK).cnt ≤ 100000 := by
  have : (tr awK).cnt = 13 := by kernel_rfl
  omega
theorem aw_bs : (ofS (hi_ awH) (tr awK)).bs.length = 3 := by kernel_rfl
theorem aw_ms : (ofS (hi_ awH) (tr awK)).ms.length = 4 := by kernel_rfl
theorem aw_bad : (ofS (hi_ awH) (tr awK)).bad = [] := by kernel_rfl
theorem aw_uses : (usesL (ofS (hi_ awH) (tr awK)) 2).length = 3 := by kernel_rfl
theorem aw_w2 : anyW 2 (ofS (hi_ awH) (tr awK)).ms = true := by kernel_rfl
theorem aw_w1 : anyW 1 (ofS (hi_ awH) (tr awK)).ms = false := by kernel_rfl
end Sc
end Go.Proofs.Ytnefnnoleeeedaa
namespace Go.Proofs.Ytnefnnoleeeedaa
open Go.RowKit Go.Op
namespace Sc
open Vm
open Ps Pg
def Vis (bs : List Bd) (q p v : Int) : Prop := ∀ i : Nat, v = (i : Int) → ∀ b, bs[i]? = some b → 2 < b.kind → b.item = q ∧ b.at_ < p
def Bok (In : Int → Int → Prop) (len : Int) (b : Bd) : Prop := (isItem b = true ∨ 2 < b.kind) ∧ 0 ≤ b.item ∧ b.item < len ∧ (2 < b.kind → In b.item b.at_)
def Mok (In : Int → Int → Prop) (bs : List Bd) (u : Mn) : Prop := u.to < (bs.length : Int) ∧ ∀ i : Nat, u.to = (i : Int) → ∀ b, bs[i]? = some b → 2 < b.kind → b.at_ ≤ u.at_ ∧ In b.item u.at_
theorem ext_get {bs l : List Bd} {i : Nat} (h : i < bs.length) : (bs ++ l)[i]? = bs[i]? := List.getElem?_append_left h
theorem Vis.ext {bs l : List Bd} {q p v : Int} (h : Vis bs q p v) (hv : v < (bs.length : Int)) : Vis (bs ++ l) q p v := fun i e b hb => by
  rw [ext_get (by omega)] at hb
  exact h i e b hb
theorem Vis.mono {bs : List Bd} {q p p' v : Int} (h : Vis bs q p v) (hp : p ≤ p') : Vis bs q p' v := fun i e b hb hk => ⟨(h i e b hb hk).1, by have := (h i e b hb hk).2; omega⟩
theorem Mok.ext {In : Int → Int → Prop} {bs l : List Bd} {u : Mn} (h : Mok In bs u) : Mok In (bs ++ l) u := by
  refine ⟨by rw [List.length_append]; have := h.1; omega, fun i e b hb => ?_⟩
  rw [ext_get (by have := h.1; omega)] at hb
  exact h.2 i e b hb
structure Inv (In : Int → Int → Prop) (len q p : Int) (s : St) : Prop where
  it : s.item = q
  bd : ∀ b ∈ s.bs, Bok In len b
  mn : ∀ u ∈ s.ms, Mok In s.bs u
  me : ∀ x, s.means x < (s.bs.length : Int) ∧ Vis s.bs q p (s.means x)
  he : ∀ x v, s.here x = some v → v < (s.bs.length : Int) ∧ Vis s.bs q p v
variable {In : Int → Int → Prop} {len q : Int}
theorem Inv.mono {p p' : Int} {s : St} (h : Inv In len q p s) (hp : p ≤ p') : Inv In len q p' s :=
  ⟨h.it, h.bd, h.mn, fun x => ⟨(h.me x).1, (h.me x).2.mono hp⟩, fun x v e => ⟨(h.he x v e).1, (h.he x v e).2.mono hp⟩⟩
theorem Inv.wrong {p : Int} {s : St} (h : Inv In len q p s) (a e : Int) : Inv In len q p (s.wrong a e) := ⟨h.it, h.bd, h.mn, h.me, h.he⟩
theorem bind0_bs (a : Int) (wd : ByteArray) (s : St) : (bind0 a wd s).bs = s.bs ∧ (bind0 a wd s).ms = s.ms ∧ (bind0 a wd s).means = s.means ∧ (bind0 a wd s).item = s.item := by
  unfold bind0
  split <;> exact ⟨rfl, rfl, rfl, rfl⟩
theorem Inv.bind0 {p : Int} {s : St} (h : Inv In len q p s) (a : Int) (wd : ByteArray) : Inv In len q p (bind0 a wd s) := by
  unfold Sc.bind0
  split
  · exact h.wrong a 31
  · refine ⟨h.it, h.bd, h.mn, h.me, fun x v e => ?_⟩
    by_cases hx : x = wd
    · have e' : (if x = wd then some (s.means wd) else s.here x) = some v := e
      rw [if_pos hx] at e'
      injection e' with e'
      rw [← e']
      exact h.me wd
    · have e' : (if x = wd then some (s.means wd) else s.here x) = some v := e
      rw [if_neg hx] at e'
      exact h.he x v e'
theorem Inv.bind {p : Int} {s : St} (h : Inv In len q p s) (a : Int) (wd : ByteArray) (kd : Int) (hq : 0 ≤ q ∧ q < len) (hk : isItem ⟨a, kd, wd, q⟩ = true ∧ ¬ 2 < kd ∨ 2 < kd ∧ In q a ∧ a < p) : Inv In len q p (bind a wd kd s) := by
  have h0 := h.bind0 a wd
  obtain ⟨e1, e2, e3, e4⟩ := bind0_bs a wd s
  have eb : (Sc.bind a wd kd s).bs = s.bs ++ [⟨a, kd, wd, s.item⟩] := rfl
  have hl : (Sc.bind a wd kd s).bs.length = s.bs.length + 1 := by rw [eb]; simp
  have hit : s.item = q := h.it
  refine ⟨e4.trans h.it, fun b hb => ?_, fun u hu => ?_, fun x => ?_, fun x v e => ?_⟩
  · rw [eb] at hb
    rcases List.mem_append.1 hb with hb | hb
    · exact h.bd b hb
    · rw [List.mem_singleton] at hb
      subst hb
      rw [hit]
      rcases hk with ⟨k1, k2⟩ | ⟨k1, k2, _⟩
      · exact ⟨.inl k1, hq.1, hq.2, fun hh => absurd hh k2⟩
      · exact ⟨.inr k1, hq.1, hq.2, fun _ => k2⟩
  · rw [eb]
    exact (h.mn u (by rw [← e2]; exact hu)).ext
  · rw [hl, eb]
    show (if x = wd then (s.bs.length : Int) else s.means x) < _ ∧ Vis _ q p (if x = wd then (s.bs.length : Int) else s.means x)
    by_cases hx : x = wd
    · rw [if_pos hx]
      refine ⟨by omega, fun i e b hb hbk => ?_⟩
      have : i = s.bs.length := by omega
      subst this
      rw [List.getElem?_append_right (Nat.le_refl _)] at hb
      simp at hb
      subst hb
      rcases hk with ⟨_, k2⟩ | ⟨_, _, k3⟩
      · exact absurd hbk k2
      · exact ⟨hit, k3⟩
    · rw [if_neg hx]
      exact ⟨by have := (h.me x).1; omega, (h.me x).2.ext (h.me x).1⟩
  · have hv := h0.he x v e
    rw [e1] at hv
    rw [hl, eb]
    exact ⟨by have := hv.1; omega, hv.2.ext hv.1⟩
theorem men0_bs (a : Int) (wd : ByteArray) (wr : Bool) (s : St) : (men0 a wd wr s).1.bs = s.bs ∧ (men0 a wd wr s).1.ms = s.ms ∧ (men0 a wd wr s).1.means = s.means ∧ (men0 a wd wr s).1.here = s.here ∧ (men0 a wd wr s).1.item = s.item := by
  unfold men0
  split
  · exact ⟨rfl, rfl, rfl, rfl, rfl⟩
  · split
    · exact ⟨rfl, rfl, rfl, rfl, rfl⟩
    · split
      · exact ⟨rfl, rfl, rfl, rfl, rfl⟩
      · split <;> exact ⟨rfl, rfl, rfl, rfl, rfl⟩
theorem Inv.mention {p : Int} {s : St} (h : Inv In len q p s) (a : Int) (wd : ByteArray) (wr : Bool) (ha : p ≤ a) (hi : In q a) : Inv In len q p (mention a wd wr s) := by
  obtain ⟨e1, e2, e3, e4, e5⟩ := men0_bs a wd wr s
  have hbs : (Sc.mention a wd wr s).bs = s.bs := e1
  refine ⟨e5.trans h.it, fun b hb => h.bd b (by rw [← e1]; exact hb), fun u hu => ?_, fun x => ?_, fun x v e => ?_⟩
  · rw [hbs]
    have hu' : u ∈ s.ms ++ [⟨a, s.means wd, wr, (men0 a wd wr s).2⟩] := hu
    rcases List.mem_append.1 hu' with hu' | hu'
    · exact h.mn u hu'
    · rw [List.mem_singleton] at hu'
      subst hu'
      refine ⟨(h.me wd).1, fun i e b hb hbk => ?_⟩
      obtain ⟨k1, k2⟩ := (h.me wd).2 i e b hb hbk
      exact ⟨by show b.at_ ≤ a; omega, by show In b.item a; rw [k1]; exact hi⟩
  · rw [hbs]
    have : (Sc.mention a wd wr s).means = s.means := e3
    rw [this]
    exact h.me x
  · rw [hbs]
    exact h.he x v (by rw [← e4]; exact e)
theorem Inv.enter {p : Int} {s : St} (h : Inv In len q p s) (l : Int) : Inv In len q p (enter l s) := ⟨h.it, h.bd, h.mn, h.me, fun _ _ e => (nomatch e)⟩
theorem Inv.leave {p p' : Int} {o s : St} (ho : Inv In len q p o) (h : Inv In len q p' s) (hp : p ≤ p') (hx : ∃ l, s.bs = o.bs ++ l) : Inv In len q p' (leave o s) := by
  obtain ⟨l, hl⟩ := hx
  refine ⟨h.it, h.bd, h.mn, fun x => ?_, fun x v e => ?_⟩
  · show (s.here x).getD (s.means x) < _ ∧ Vis s.bs q p' ((s.here x).getD (s.means x))
    cases e : s.here x with
    | none => exact h.me x
    | some v => exact h.he x v e
  · have hv := ho.he x v e
    show v < (s.bs.length : Int) ∧ Vis s.bs q p' v
    rw [hl]
    exact ⟨by rw [List.length_append]; have := hv.1; omega, (hv.2.mono hp).ext hv.1⟩
theorem mention_ext (a : Int) (wd : ByteArray) (wr : Bool) (s : St) : (mention a wd wr s).bs = s.bs := (men0_bs a wd wr s).1
theorem ext_trans {a b c : List Bd} (h : ∃ l, b = a ++ l) (k : ∃ l, c = b ++ l) : ∃ l, c = a ++ l := by
  obtain ⟨l, rfl⟩ := h
  obtain ⟨m, rfl⟩ := k
  exact ⟨l ++ m, by rw [List.append_assoc]⟩
def base (s : St) (x : ByteArray) : Int := (s.here x).getD (s.means x)
theorem base_bind (a : Int) (wd : ByteArray) (kd : Int) (s : St) (x : ByteArray) : base (bind a wd kd s) x = base s x := by
  have e : (bind a wd kd s).here = (bind0 a wd s).here := rfl
  have m : (bind a wd kd s).means x = if x = wd then (s.bs.length : Int) else s.means x := rfl
  unfold base
  rw [e, m]
  unfold bind0
  split
  · rename_i hs
    show (s.here x).getD _ = _
    by_cases hx : x = wd
    · subst hx
      cases hh : s.here x with
      | none => rw [hh] at hs; cases hs
      | some v => rfl
    · rw [if_neg hx]
  · rename_i hs
    show (if x = wd then some (s.means wd) else s.here x).getD _ = _
    by_cases hx : x = wd
    · subst hx
      rw [if_pos rfl]
      cases hh : s.here x with
      | none => rfl
      | some v => rw [hh] at hs; exact absurd rfl hs
    · rw [if_neg hx, if_neg hx]
theorem base_mention (a : Int) (wd : ByteArray) (wr : Bool) (s : St) (x : ByteArray) : base (mention a wd wr s) x = base s x := by
  have e : (mention a wd wr s).here = s.here := (men0_bs a wd wr s).2.2.2.1
  have m : (mention a wd wr s).means = s.means := (men0_bs a wd wr s).2.2.1
  unfold base
  rw [e, m]
theorem leave_means {l : Int} {s t : St} (h : ∀ x, base t x = base (enter l s) x) : (leave s t).means = s.means ∧ (leave s t).here = s.here := by
  refine ⟨funext fun x => ?_, rfl⟩
  exact h x
theorem base_leave {l : Int} {s t : St} (h : ∀ x, base t x = base (enter l s) x) (x : ByteArray) : base (leave s t) x = base s x := by
  unfold base
  rw [(leave_means h).1, (leave_means h).2]
theorem base_nodes : ∀ (k : Tr) (s : St) (x : ByteArray), base (nodes k s) x = base s x
  | .nil, s, x => by rw [nodes]
  | .cons h k r, s, x => by
    rw [nodes, base_nodes r]
    unfold node
    split
    · rfl
    · split
      · exact base_leave (fun x => base_nodes k _ x) x
      · split
        · exact base_leave (fun x => base_nodes k _ x) x
        · split
          · exact base_bind _ _ _ _ _
          · split
            · rw [base_bind, base_nodes k]
            · split
              · rw [base_nodes k, base_mention]
              · split
                · exact base_mention _ _ _ _ _
                · exact base_nodes k s x
end Sc
end Go.Proofs.Ytnefnnoleeeedaa
namespace Go.Proofs.Ytnefnnoleeeedaa
open Go.RowKit Go.Op
namespace Sc
open Vm
structure Nm where
  tgt : Nat
  begins : Bool
  lambda : Bool
structure Rm where
  bs : List Bd
  ms : List Mn
  bad : List (Int × Int)
def wordOf (bs : List Bd) (i : Nat) : ByteArray := ((bs[i]?).map Bd.word).getD ⟨#[]⟩
def kindOf (bs : List Bd) (i : Nat) : Int := ((bs[i]?).map Bd.kind).getD 0
def look (bs : List Bd) (x : ByteArray) : List Nm → Int → Int × Int
  | [], far => (-1, far)
  | n :: r, far => if n.begins = true then look bs x r (if n.lambda = true then far + 1 else far) else if wordOf bs n.tgt = x then ((n.tgt : Int), far) else look bs x r far
def dup (bs : List Bd) (x : ByteArray) : List Nm → Bool
  | [] => false
  | n :: r => if n.begins = true then false else if wordOf bs n.tgt = x then true else dup bs x r
def lc : List Nm → Int
  | [] => 0
  | n :: r => if n.begins = true ∧ n.lambda = true then lc r + 1 else lc r
def bindR (a : Int) (word : ByteArray) (kind item : Int) (x : Rm × List Nm) : Rm × List Nm :=
  (⟨x.1.bs ++ [⟨a, kind, word, item⟩], x.1.ms, if dup x.1.bs word x.2 = true then x.1.bad ++ [(a, 31)] else x.1.bad⟩, ⟨x.1.bs.length, false, false⟩ :: x.2)
def mentionR (a : Int) (word : ByteArray) (write : Bool) (x : Rm × List Nm) : Rm :=
  let p := look x.1.bs word x.2 0
  if p.1 < 0 then ⟨x.1.bs, x.1.ms ++ [⟨a, p.1, write, 0⟩], x.1.bad ++ [(a, 30)]⟩
  else if 3 ≤ kindOf x.1.bs p.1.toNat then ⟨x.1.bs, x.1.ms ++ [⟨a, p.1, write, p.2⟩], x.1.bad⟩
  else if write = true then ⟨x.1.bs, x.1.ms ++ [⟨a, p.1, write, 0⟩], x.1.bad ++ [(a, 35)]⟩
  else ⟨x.1.bs, x.1.ms ++ [⟨a, p.1, write, 0⟩], x.1.bad⟩
def bindsR (kind item : Int) : Tr → Rm × List Nm → Rm × List Nm
  | .nil, x => x
  | .cons h _ r, x => bindsR kind item r (bindR h.at_ h.word kind item x)
mutual
def nodesR (item : Int) : Tr → Rm × List Nm → Rm × List Nm
  | .nil, x => x
  | .cons h k r, x => nodesR item r
    (if h.kind = 23 then (mentionR h.at_ h.word false x, x.2)
     else if h.kind = 8 then nodesR item k (mentionR h.at_ h.word true x, x.2)
     else if h.kind = 28 then
       lamR item true k x
     else if h.kind = 6 then ((nodesR item k (x.1, ⟨0, true, false⟩ :: x.2)).1, x.2)
     else if h.kind = 7 then bindR h.at_ h.word 4 item (nodesR item k x)
     else nodesR item k x)
def lamR (item : Int) (lambda : Bool) : Tr → Rm × List Nm → Rm × List Nm
  | .cons _ kp (.cons _ _ (.cons _hb kb .nil)), x =>
    ((nodesR item kb ((bindsR 3 item kp (x.1, ⟨0, true, lambda⟩ :: x.2)).1, ⟨0, true, false⟩ :: (bindsR 3 item kp (x.1, ⟨0, true, lambda⟩ :: x.2)).2)).1, x.2)
  | _, x => x
end
def Silent : Tr → Prop
  | .nil => True
  | .cons h k r => h.kind ≠ 3 ∧ h.kind ≠ 5 ∧ h.kind ≠ 6 ∧ h.kind ≠ 7 ∧ h.kind ≠ 8 ∧ h.kind ≠ 23 ∧ h.kind ≠ 28 ∧ (h.kind ≠ 2 → Silent k) ∧ Silent r
def AllK (kd : Int) : Tr → Prop
  | .nil => True
  | .cons h _ r => h.kind = kd ∧ AllK kd r
mutual
def Gd : Tr → Prop
  | .nil => True
  | .cons h k r => h.kind ≠ 2 ∧ h.kind ≠ 3 ∧ h.kind ≠ 5 ∧ (if h.kind = 28 then Lm k else Gd k) ∧ Gd r
def Lm : Tr → Prop
  | .cons hp kp (.cons ht kt (.cons hb kb .nil)) => hp.kind = 4 ∧ AllK 5 kp ∧ Silent (.cons ht kt .nil) ∧ hb.kind = 6 ∧ Gd kb
  | _ => False
end
end Sc
end Go.Proofs.Ytnefnnoleeeedaa
namespace Go.Proofs.Ytnefnnoleeeedaa
open Go.RowKit Go.Op
namespace Sc
open Vm
def Wi (wn : List Int) (m : Nat) : List Nm → Prop
  | [] => True
  | n :: r => (n.begins = true ∨ (n.tgt < m ∧ wn[n.tgt]? = some (lc r))) ∧ Wi wn m r
theorem Wi.ext {wn wn' : List Int} {m m' : Nat} (hw : ∃ l, wn' = wn ++ l) (hm : m ≤ m') : ∀ {L : List Nm}, Wi wn m L → Wi wn' m' L
  | [], _ => trivial
  | n :: r, ⟨h1, h2⟩ => by
    refine ⟨?_, Wi.ext hw hm h2⟩
    rcases h1 with h1 | ⟨h1, h3⟩
    · exact .inl h1
    · obtain ⟨l, rfl⟩ := hw
      refine .inr ⟨by omega, ?_⟩
      have hlt := (List.getElem?_eq_some_iff.1 h3).1
      rw [List.getElem?_append_left hlt]
      exact h3
theorem look_far (bs : List Bd) (x : ByteArray) : ∀ (L : List Nm) (f : Int), look bs x L f = ((look bs x L 0).1, f + (look bs x L 0).2)
  | [], f => by simp [look]
  | n :: r, f => by
    rw [look, look]
    split
    · rw [look_far bs x r (if n.lambda = true then f + 1 else f), look_far bs x r (if n.lambda = true then 0 + 1 else 0)]
      simp only [Prod.mk.injEq, true_and]
      split <;> omega
    · split
      · simp
      · exact look_far bs x r f
theorem look_ran {wn : List Int} {m : Nat} (bs : List Bd) (x : ByteArray) : ∀ (L : List Nm) (f : Int), Wi wn m L → (look bs x L f).1 = -1 ∨ (0 ≤ (look bs x L f).1 ∧ (look bs x L f).1 < (m : Int))
  | [], f, _ => .inl rfl
  | n :: r, f, ⟨h1, h2⟩ => by
    rw [look]
    split
    · exact look_ran bs x r _ h2
    · rename_i hb
      split
      · rcases h1 with h1 | ⟨h1, _⟩
        · exact absurd h1 hb
        · exact .inr ⟨by show (0 : Int) ≤ n.tgt; omega, by show (n.tgt : Int) < m; omega⟩
      · exact look_ran bs x r _ h2
theorem look_lc {wn : List Int} {m : Nat} (bs : List Bd) (x : ByteArray) : ∀ (L : List Nm), Wi wn m L → 0 ≤ (look bs x L 0).1 → wn[(look bs x L 0).1.toNat]? = some (lc L - (look bs x L 0).2)
  | [], _, h => by simp [look] at h
  | n :: r, ⟨h1, h2⟩, h => by
    rw [look] at h ⊢
    by_cases hb : n.begins = true
    · rw [if_pos hb] at h ⊢
      rw [look_far] at h ⊢
      have ih := look_lc bs x r h2 h
      simp only at h ⊢
      rw [ih, lc]
      by_cases hl : n.lambda = true
      · rw [if_pos hl, if_pos ⟨hb, hl⟩]
        congr 1
        omega
      · rw [if_neg hl, if_neg (fun hh => hl hh.2)]
        congr 1
        omega
    · rw [if_neg hb] at h ⊢
      have hlc : lc (n :: r) = lc r := by rw [lc, if_neg (fun hh => hb hh.1)]
      by_cases hx : wordOf bs n.tgt = x
      · rw [if_pos hx]
        rcases h1 with h1 | ⟨_, h3⟩
        · exact absurd h1 hb
        · rw [hlc]
          simp only [Int.toNat_natCast, Int.sub_zero]
          exact h3
      · rw [if_neg hx] at h ⊢
        rw [hlc]
        exact look_lc bs x r h2 h
theorem wordOf_ext {bs l : List Bd} {i : Nat} (h : i < bs.length) : wordOf (bs ++ l) i = wordOf bs i := by unfold wordOf; rw [List.getElem?_append_left h]
theorem look_ext {wn : List Int} (bs l : List Bd) (x : ByteArray) : ∀ (L : List Nm) (f : Int), Wi wn bs.length L → look (bs ++ l) x L f = look bs x L f
  | [], f, _ => rfl
  | n :: r, f, ⟨h1, h2⟩ => by
    rw [look, look]
    by_cases hb : n.begins = true
    · rw [if_pos hb, if_pos hb]
      exact look_ext bs l x r _ h2
    · rcases h1 with h1 | ⟨h1, _⟩
      · exact absurd h1 hb
      · rw [if_neg hb, if_neg hb, wordOf_ext h1, look_ext bs l x r f h2]
theorem dup_ext {wn : List Int} (bs l : List Bd) (x : ByteArray) : ∀ (L : List Nm), Wi wn bs.length L → dup (bs ++ l) x L = dup bs x L
  | [], _ => rfl
  | n :: r, ⟨h1, h2⟩ => by
    rw [dup, dup]
    by_cases hb : n.begins = true
    · rw [if_pos hb, if_pos hb]
    · rcases h1 with h1 | ⟨h1, _⟩
      · exact absurd h1 hb
      · rw [if_neg hb, if_neg hb, wordOf_ext h1, dup_ext bs l x r h2]
structure Sim (it : Int) (s : St) (R : Rm) (L : List Nm) : Prop where
  bs : s.bs = R.bs
  ms : s.ms = R.ms
  bad : s.bad = R.bad
  item : s.item = it
  lam : s.lam = lc L
  ln : s.within.length = R.bs.length
  me : ∀ x, s.means x = (look R.bs x L 0).1
  he : ∀ x, (s.here x).isSome = dup R.bs x L
  wi : Wi s.within R.bs.length L
  kd : ∀ b ∈ R.bs, b.kind = 1 ∨ b.kind = 2 ∨ b.kind = 3 ∨ b.kind = 4
structure Gr (s t : St) : Prop where
  bs : ∃ l, t.bs = s.bs ++ l
  wn : ∃ l, t.within = s.within ++ l
  item : t.item = s.item
theorem Gr.refl (s : St) : Gr s s := ⟨⟨[], by simp⟩, ⟨[], by simp⟩, rfl⟩
theorem Gr.trans {a b c : St} (h : Gr a b) (k : Gr b c) : Gr a c := by
  refine ⟨ext_trans h.bs k.bs, ?_, k.item.trans h.item⟩
  obtain ⟨l, hl⟩ := h.wn
  obtain ⟨m, hm⟩ := k.wn
  exact ⟨l ++ m, by rw [hm, hl, List.append_assoc]⟩
variable {it : Int}
theorem bind0_more (a : Int) (wd : ByteArray) (s : St) : (bind0 a wd s).within = s.within ∧ (bind0 a wd s).lam = s.lam := by
  unfold bind0
  split <;> exact ⟨rfl, rfl⟩
theorem bind_gr (a : Int) (wd : ByteArray) (kd : Int) (s : St) : Gr s (bind a wd kd s) := ⟨⟨_, rfl⟩, ⟨_, rfl⟩, (bind0_bs a wd s).2.2.2⟩
theorem Sim.bind {s : St} {R : Rm} {L : List Nm} (h : Sim it s R L) (a : Int) (wd : ByteArray) (kd : Int) (hk : kd = 1 ∨ kd = 2 ∨ kd = 3 ∨ kd = 4) : Sim it (bind a wd kd s) (bindR a wd kd it (R, L)).1 (bindR a wd kd it (R, L)).2 := by
  obtain ⟨e1, e2, e3, e4⟩ := bind0_bs a wd s
  obtain ⟨e5, e6⟩ := bind0_more a wd s
  have hl : (R.bs ++ [(⟨a, kd, wd, it⟩ : Bd)]).length = R.bs.length + 1 := by simp
  have hwn : (Sc.bind a wd kd s).within = s.within ++ [s.lam] := rfl
  have hw : wordOf (R.bs ++ [(⟨a, kd, wd, it⟩ : Bd)]) R.bs.length = wd := by unfold wordOf; rw [List.getElem?_append_right (Nat.le_refl _)]; simp
  have hlook : ∀ x, (look (R.bs ++ [(⟨a, kd, wd, it⟩ : Bd)]) x (⟨R.bs.length, false, false⟩ :: L) 0).1 = if wd = x then (R.bs.length : Int) else (look R.bs x L 0).1 := fun x => by
    rw [look, if_neg (by simp)]
    show (if wordOf (R.bs ++ [(⟨a, kd, wd, it⟩ : Bd)]) R.bs.length = x then ((R.bs.length : Int), (0 : Int)) else look (R.bs ++ [(⟨a, kd, wd, it⟩ : Bd)]) x L 0).1 = _
    rw [hw, look_ext _ _ _ _ _ h.wi]
    split <;> rfl
  have hdup : ∀ x, dup (R.bs ++ [(⟨a, kd, wd, it⟩ : Bd)]) x (⟨R.bs.length, false, false⟩ :: L) = if wd = x then true else dup R.bs x L := fun x => by
    rw [dup, if_neg (by simp)]
    show (if wordOf (R.bs ++ [(⟨a, kd, wd, it⟩ : Bd)]) R.bs.length = x then true else dup (R.bs ++ [(⟨a, kd, wd, it⟩ : Bd)]) x L) = _
    rw [hw, dup_ext _ _ _ _ h.wi]
  have hhere : ∀ x, ((bind0 a wd s).here x).isSome = if x = wd then true else (s.here x).isSome := fun x => by
    unfold bind0
    split
    · rename_i hs
      show (s.here x).isSome = _
      by_cases hx : x = wd
      · rw [if_pos hx, hx]; exact hs
      · rw [if_neg hx]
    · show (if x = wd then some (s.means wd) else s.here x).isSome = _
      split <;> rfl
  refine ⟨?_, e2.trans h.ms, ?_, e4.trans h.item, ?_, ?_, fun x => ?_, fun x => ?_, ?_, fun b hb => ?_⟩
  · show s.bs ++ [⟨a, kd, wd, s.item⟩] = R.bs ++ [⟨a, kd, wd, it⟩]
    rw [h.bs, h.item]
  · show (bind0 a wd s).bad = if dup R.bs wd L = true then R.bad ++ [(a, 31)] else R.bad
    unfold bind0
    rw [h.he wd]
    split
    · show s.bad ++ [(a, 31)] = _; rw [h.bad]
    · exact h.bad
  · show (bind0 a wd s).lam = lc (_ :: L)
    rw [e6, lc, if_neg (by simp)]
    exact h.lam
  · rw [hwn]
    show _ = (R.bs ++ [(⟨a, kd, wd, it⟩ : Bd)]).length
    rw [List.length_append, h.ln, hl]
    rfl
  · show (if x = wd then (s.bs.length : Int) else s.means x) = (look (R.bs ++ [⟨a, kd, wd, it⟩]) x (⟨R.bs.length, false, false⟩ :: L) 0).1
    rw [hlook x]
    by_cases hx : x = wd
    · rw [if_pos hx, if_pos hx.symm, h.bs]
    · rw [if_neg hx, if_neg (fun e => hx e.symm), h.me x]
  · show ((bind0 a wd s).here x).isSome = dup (R.bs ++ [⟨a, kd, wd, it⟩]) x (⟨R.bs.length, false, false⟩ :: L)
    rw [hdup x, hhere x]
    by_cases hx : x = wd
    · rw [if_pos hx, if_pos hx.symm]
    · rw [if_neg hx, if_neg (fun e => hx e.symm), h.he x]
  · rw [hwn]
    show Wi _ (R.bs ++ [(⟨a, kd, wd, it⟩ : Bd)]).length (⟨R.bs.length, false, false⟩ :: L)
    rw [hl]
    refine ⟨.inr ⟨by show R.bs.length < _; omega, ?_⟩, h.wi.ext ⟨_, rfl⟩ (by omega)⟩
    show (s.within ++ [s.lam])[R.bs.length]? = some (lc L)
    rw [← h.ln, List.getElem?_append_right (Nat.le_refl _)]
    simp [h.lam]
  · have hb' : b ∈ R.bs ++ [(⟨a, kd, wd, it⟩ : Bd)] := hb
    rcases List.mem_append.1 hb' with hb' | hb'
    · exact h.kd b hb'
    · rw [List.mem_singleton] at hb'
      subst hb'
      exact hk
theorem men0_more (a : Int) (wd : ByteArray) (wr : Bool) (s : St) : (men0 a wd wr s).1.within = s.within ∧ (men0 a wd wr s).1.lam = s.lam := by
  unfold men0
  split
  · exact ⟨rfl, rfl⟩
  · split
    · exact ⟨rfl, rfl⟩
    · split
      · exact ⟨rfl, rfl⟩
      · split <;> exact ⟨rfl, rfl⟩
theorem mention_gr (a : Int) (wd : ByteArray) (wr : Bool) (s : St) : Gr s (mention a wd wr s) := ⟨⟨[], by rw [mention_ext]; simp⟩, ⟨[], by rw [List.append_nil]; exact (men0_more a wd wr s).1⟩, (men0_bs a wd wr s).2.2.2.2⟩
theorem mentionR_bs (a : Int) (wd : ByteArray) (wr : Bool) (x : Rm × List Nm) : (mentionR a wd wr x).bs = x.1.bs := by
  unfold mentionR
  dsimp only
  split
  · rfl
  · split
    · rfl
    · split <;> rfl
theorem Sim.mention {s : St} {R : Rm} {L : List Nm} (h : Sim it s R L) (a : Int) (wd : ByteArray) (wr : Bool) : Sim it (mention a wd wr s) (mentionR a wd wr (R, L)) L := by
  obtain ⟨e1, e2, e3, e4, e5⟩ := men0_bs a wd wr s
  obtain ⟨e6, e7⟩ := men0_more a wd wr s
  have hb := mentionR_bs a wd wr (R, L)
  have core : (Sc.mention a wd wr s).ms = (mentionR a wd wr (R, L)).ms ∧ (Sc.mention a wd wr s).bad = (mentionR a wd wr (R, L)).bad := by
    show s.ms ++ [⟨a, s.means wd, wr, (men0 a wd wr s).2⟩] = _ ∧ (men0 a wd wr s).1.bad = _
    unfold mentionR men0
    dsimp only
    have hm := h.me wd
    rw [hm]
    have hr := look_ran R.bs wd L 0 h.wi
    by_cases h0 : (look R.bs wd L 0).1 = -1
    · rw [if_pos h0, if_pos (show (look R.bs wd L 0).1 < 0 by omega)]
      exact ⟨by rw [h.ms], by show s.bad ++ _ = _; rw [h.bad]⟩
    · have h1 : 0 ≤ (look R.bs wd L 0).1 := by omega
      rw [if_neg h0, if_neg (show ¬ (look R.bs wd L 0).1 < 0 by omega)]
      have hlt : (look R.bs wd L 0).1.toNat < R.bs.length := by omega
      have hlc := look_lc R.bs wd L h.wi h1
      obtain ⟨b, hbx⟩ : ∃ b, R.bs[(look R.bs wd L 0).1.toNat]? = some b := ⟨_, List.getElem?_eq_getElem hlt⟩
      have hk : kindOf R.bs (look R.bs wd L 0).1.toNat = b.kind := by unfold kindOf; rw [hbx]; rfl
      have hki := h.kd b (List.mem_of_getElem? hbx)
      rw [h.bs, hbx, hk]
      dsimp only
      by_cases h3 : 3 ≤ b.kind
      · have hi : isItem b = false := by unfold isItem; rcases hki with e | e | e | e <;> rw [e] <;> first | rfl | omega
        rw [if_pos hi, if_pos h3]
        refine ⟨?_, h.bad⟩
        rw [h.ms]
        have : s.within.getD (look R.bs wd L 0).1.toNat 0 = lc L - (look R.bs wd L 0).2 := by
          rw [List.getD_eq_getElem?_getD, hlc]; rfl
        dsimp only
        rw [this, h.lam, show lc L - (lc L - (look R.bs wd L 0).2) = (look R.bs wd L 0).2 by omega]
      · have hi : ¬ isItem b = false := by unfold isItem; rcases hki with e | e | e | e <;> rw [e] <;> first | decide | omega
        rw [if_neg hi, if_neg h3]
        dsimp only
        by_cases hw : wr = true
        · rw [if_pos hw, if_pos hw]
          exact ⟨by rw [h.ms], by show s.bad ++ _ = _; rw [h.bad]⟩
        · rw [if_neg hw, if_neg hw]
          exact ⟨by rw [h.ms], h.bad⟩
  refine ⟨e1.trans (h.bs.trans hb.symm), core.1, core.2, e5.trans h.item, e7.trans h.lam, by rw [hb]; exact (congrArg List.length e6).trans h.ln, fun x => ?_, fun x => ?_, ?_, fun b hbm => h.kd b (by rw [hb] at hbm; exact hbm)⟩
  · rw [hb]; exact (congrFun e3 x).trans (h.me x)
  · rw [hb]
    have : (Sc.mention a wd wr s).here = s.here := e4
    rw [this]
    exact h.he x
  · rw [hb]
    have : (Sc.mention a wd wr s).within = s.within := e6
    rw [this]
    exact h.wi
theorem Sim.enter {s : St} {R : Rm} {L : List Nm} (h : Sim it s R L) (lam : Bool) : Sim it (enter (if lam = true then 1 else 0) s) R (⟨0, true, lam⟩ :: L) := by
  refine ⟨h.bs, h.ms, h.bad, h.item, ?_, h.ln, fun x => ?_, fun x => ?_, ⟨.inl rfl, h.wi⟩, h.kd⟩
  · show s.lam + (if lam = true then 1 else 0) = _
    rw [lc, h.lam]
    cases lam <;> simp
  · rw [look, if_pos rfl, look_far]
    exact h.me x
  · rw [dup, if_pos rfl]
    rfl
theorem Sim.leave {o t : St} {R R' : Rm} {L L' : List Nm} {l : Int} (ho : Sim it o R L) (ht : Sim it t R' L') (hb : ∀ x, base t x = base (Sc.enter l o) x) (g : Gr o t) : Sim it (leave o t) R' L := by
  obtain ⟨m1, m2⟩ := leave_means hb
  obtain ⟨m, hm⟩ := g.bs
  have hbs : R'.bs = R.bs ++ m := by rw [← ht.bs, hm, ho.bs]
  refine ⟨ht.bs, ht.ms, ht.bad, ht.item, ho.lam, ht.ln, fun x => ?_, fun x => ?_, ?_, ht.kd⟩
  · rw [m1, hbs, look_ext _ _ _ _ _ ho.wi]
    exact ho.me x
  · rw [m2, hbs, dup_ext _ _ _ _ ho.wi]
    exact ho.he x
  · show Wi t.within R'.bs.length L
    exact ho.wi.ext g.wn (by rw [hbs, List.length_append]; omega)
end Sc
end Go.Proofs.Ytnefnnoleeeedaa
namespace Go.Proofs.Ytnefnnoleeeedaa
open Go.RowKit Go.Op
namespace Sc
open Vm
variable {it : Int}
theorem enter_gr (l : Int) (s : St) : Gr s (enter l s) := ⟨⟨[], by simp [enter]⟩, ⟨[], by simp [enter]⟩, rfl⟩
theorem leave_gr {o t : St} (h : Gr o t) : Gr o (leave o t) := ⟨h.bs, h.wn, h.item⟩
theorem silent_same : ∀ (k : Tr), Silent k → ∀ s, nodes k s = s
  | .nil, _, s => by rw [nodes]
  | .cons h k r, ⟨a3, a5, a6, a7, a8, a23, a28, a9, a10⟩, s => by
    rw [nodes]
    have e : node h (nodes k) s = s := by
      unfold node
      by_cases c2 : h.kind = 2
      · rw [if_pos c2]
      · rw [if_neg c2, if_neg (by omega), if_neg a28, if_neg a5, if_neg a7, if_neg a8, if_neg a23]
        exact silent_same k (a9 c2) s
    rw [e]
    exact silent_same r a10 s
theorem sim_params : ∀ (k : Tr) (s : St) (R : Rm) (L : List Nm), AllK 5 k → Sim it s R L → Sim it (nodes k s) (bindsR 3 it k (R, L)).1 (bindsR 3 it k (R, L)).2 ∧ Gr s (nodes k s)
  | .nil, s, R, L, _, h => by rw [nodes, bindsR]; exact ⟨h, Gr.refl s⟩
  | .cons hd k r, s, R, L, ⟨a1, a2⟩, h => by
    rw [nodes, bindsR]
    have e : node hd (nodes k) s = bind hd.at_ hd.word 3 s := by
      unfold node
      rw [if_neg (by omega), if_neg (by omega), if_neg (by omega), if_pos a1]
    rw [e]
    obtain ⟨i1, i2⟩ := sim_params r _ _ _ a2 (h.bind hd.at_ hd.word 3 (.inr (.inr (.inl rfl))))
    exact ⟨i1, (bind_gr _ _ _ _).trans i2⟩
mutual
theorem sim_nodes : ∀ (k : Tr) (s : St) (R : Rm) (L : List Nm), Gd k → Sim it s R L → Sim it (nodes k s) (nodesR it k (R, L)).1 (nodesR it k (R, L)).2 ∧ Gr s (nodes k s)
  | .nil, s, R, L, _, h => by rw [nodes, nodesR]; exact ⟨h, Gr.refl s⟩
  | .cons hd k r, s, R, L, hg, h => by
    rw [Gd] at hg
    obtain ⟨a2, a3, a5, a4, a9⟩ := hg
    rw [nodes, nodesR]
    have go : ∀ (x : Rm × List Nm), Sim it (node hd (nodes k) s) x.1 x.2 → Gr s (node hd (nodes k) s) → Sim it (nodes r (node hd (nodes k) s)) (nodesR it r x).1 (nodesR it r x).2 ∧ Gr s (nodes r (node hd (nodes k) s)) := fun x hx gx => by
      obtain ⟨i1, i2⟩ := sim_nodes r _ x.1 x.2 a9 hx
      exact ⟨i1, gx.trans i2⟩
    unfold node at go ⊢
    rw [if_neg a2] at go ⊢
    by_cases c23 : hd.kind = 23
    · rw [if_neg (by omega), if_neg (by omega), if_neg (by omega), if_neg (by omega), if_neg (by omega), if_pos c23] at go ⊢
      rw [if_pos c23]
      exact go _ (h.mention hd.at_ hd.word false) (mention_gr _ _ _ _)
    by_cases c8 : hd.kind = 8
    · rw [if_neg (by omega), if_neg (by omega), if_neg (by omega), if_neg (by omega), if_pos c8] at go ⊢
      rw [if_neg c23, if_pos c8]
      rw [if_neg (by omega)] at a4
      obtain ⟨i1, i2⟩ := sim_nodes k _ _ _ a4 (h.mention hd.at_ hd.word true)
      exact go _ i1 ((mention_gr _ _ _ _).trans i2)
    by_cases c28 : hd.kind = 28
    · rw [if_neg (by omega), if_pos c28] at go ⊢
      rw [if_neg c23, if_neg c8, if_pos c28]
      rw [if_pos c28] at a4
      have hl := sim_lam k s R L true a4 h
      obtain ⟨i1, i2⟩ := hl
      exact go _ i1 i2
    by_cases c6 : hd.kind = 6
    · rw [if_pos (.inr c6)] at go ⊢
      rw [if_neg c23, if_neg c8, if_neg c28, if_pos c6]
      rw [if_neg c28] at a4
      obtain ⟨i1, i2⟩ := sim_nodes k _ _ _ a4 (h.enter false)
      exact go _ (h.leave (l := 0) i1 (fun x => base_nodes k _ x) ((enter_gr 0 s).trans i2)) (leave_gr ((enter_gr 0 s).trans i2))
    by_cases c7 : hd.kind = 7
    · rw [if_neg (by omega), if_neg (by omega), if_neg (by omega), if_pos c7] at go ⊢
      rw [if_neg c23, if_neg c8, if_neg c28, if_neg c6, if_pos c7]
      rw [if_neg c28] at a4
      obtain ⟨i1, i2⟩ := sim_nodes k _ _ _ a4 h
      exact go _ (i1.bind hd.at_ hd.word 4 (.inr (.inr (.inr rfl)))) (i2.trans (bind_gr _ _ _ _))
    · rw [if_neg (by omega), if_neg c28, if_neg a5, if_neg c7, if_neg c8, if_neg c23] at go ⊢
      rw [if_neg c23, if_neg c8, if_neg c28, if_neg c6, if_neg c7]
      rw [if_neg c28] at a4
      obtain ⟨i1, i2⟩ := sim_nodes k _ _ _ a4 h
      exact go _ i1 i2
theorem sim_lam : ∀ (k : Tr) (s : St) (R : Rm) (L : List Nm) (lam : Bool), Lm k → Sim it s R L →
    Sim it (leave s (nodes k (enter (if lam = true then 1 else 0) s))) (lamR it lam k (R, L)).1 (lamR it lam k (R, L)).2 ∧ Gr s (leave s (nodes k (enter (if lam = true then 1 else 0) s)))
  | .cons hp kp (.cons ht kt (.cons hb kb .nil)), s, R, L, lam, hl, h => by
    rw [Lm] at hl
    obtain ⟨b1, b2, b3, b4, b5⟩ := hl
    have e : nodes (.cons hp kp (.cons ht kt (.cons hb kb .nil))) (enter (if lam = true then 1 else 0) s) = leave (nodes kp (enter (if lam = true then 1 else 0) s)) (nodes kb (enter 0 (nodes kp (enter (if lam = true then 1 else 0) s)))) := by
      have es := silent_same _ b3 (nodes kp (enter (if lam = true then 1 else 0) s))
      rw [nodes, nodes] at es
      rw [nodes]
      have e1 : node hp (nodes kp) (enter (if lam = true then 1 else 0) s) = nodes kp (enter (if lam = true then 1 else 0) s) := by
        unfold node
        rw [if_neg (by omega), if_neg (by omega), if_neg (by omega), if_neg (by omega), if_neg (by omega), if_neg (by omega), if_neg (by omega)]
      rw [e1, nodes, es, nodes, nodes]
      unfold node
      rw [if_neg (by omega), if_pos (.inr b4)]
    obtain ⟨i1, i2⟩ := sim_params kp _ _ _ b2 (h.enter lam)
    obtain ⟨j1, j2⟩ := sim_nodes kb _ _ _ b5 (i1.enter false)
    have g1 : Gr s (nodes kp (enter (if lam = true then 1 else 0) s)) := (enter_gr _ s).trans i2
    have g2 := (enter_gr 0 (nodes kp (enter (if lam = true then 1 else 0) s))).trans j2
    have k1 := i1.leave (l := 0) j1 (fun x => base_nodes kb _ x) g2
    have eb : ∀ x, base (nodes (.cons hp kp (.cons ht kt (.cons hb kb .nil))) (enter (if lam = true then 1 else 0) s)) x = base (enter (if lam = true then 1 else 0) s) x := fun x => base_nodes _ _ x
    rw [e] at eb ⊢
    refine ⟨?_, leave_gr (g1.trans (leave_gr g2))⟩
    have k2 := h.leave (l := if lam = true then 1 else 0) k1 eb (g1.trans (leave_gr g2))
    rw [lamR]
    exact k2
end
end Sc
end Go.Proofs.Ytnefnnoleeeedaa
namespace Go.Proofs.Ytnefnnoleeeedaa
open Go.RowKit Go.Op
namespace Sc
open Vm
open Sb
def bindItemsR : Nat → Tr → Rm × List Nm → Rm × List Nm
  | _, .nil, x => x
  | i, .cons h _ r, x => bindItemsR (i + 1) r (if h.kind = 2 then bindR h.at_ h.word 1 i x else if h.kind = 3 then bindR h.at_ h.word 2 i x else x)
def closeItemsR : Nat → Tr → Rm × List Nm → Rm × List Nm
  | _, .nil, x => x
  | i, .cons h k r, x => closeItemsR (i + 1) r (if h.kind = 3 then lamR i false k x else x)
def fileR (k : Tr) : Rm := (closeItemsR 0 k (bindItemsR 0 k (⟨[], [], []⟩, []))).1
def GdI : Tr → Prop
  | .nil => True
  | .cons h k r => (h.kind = 2 ∨ h.kind = 3 ∧ Lm k) ∧ GdI r
theorem Sim.set {it : Int} {s : St} {R : Rm} {L : List Nm} (h : Sim it s R L) (j : Int) : Sim j { s with item := j } R L := ⟨h.bs, h.ms, h.bad, rfl, h.lam, h.ln, h.me, h.he, h.wi, h.kd⟩
theorem sim_binds : ∀ (k : Tr) (i : Nat) (it : Int) (s : St) (R : Rm) (L : List Nm), GdI k → Sim it s R L → ∃ it', Sim it' (binds i k s) (bindItemsR i k (R, L)).1 (bindItemsR i k (R, L)).2
  | .nil, i, it, s, R, L, _, h => by rw [binds, bindItemsR]; exact ⟨it, h⟩
  | .cons hd k r, i, it, s, R, L, ⟨g1, g2⟩, h => by
    rw [binds, bindItemsR]
    unfold bind1
    by_cases c2 : hd.kind = 2
    · rw [if_pos c2, if_pos c2]
      exact sim_binds r (i + 1) i _ _ _ g2 ((h.set i).bind hd.at_ hd.word 1 (.inl rfl))
    · have c3 : hd.kind = 3 := by rcases g1 with g1 | g1; exact absurd g1 c2; exact g1.1
      rw [if_neg c2, if_pos c3, if_neg c2, if_pos c3]
      exact sim_binds r (i + 1) i _ _ _ g2 ((h.set i).bind hd.at_ hd.word 2 (.inr (.inl rfl)))
theorem sim_items : ∀ (k : Tr) (i : Nat) (it : Int) (s : St) (R : Rm) (L : List Nm), GdI k → Sim it s R L → ∃ it' L', Sim it' (items i k s) (closeItemsR i k (R, L)).1 L'
  | .nil, i, it, s, R, L, _, h => by rw [items, closeItemsR]; exact ⟨it, L, h⟩
  | .cons hd k r, i, it, s, R, L, ⟨g1, g2⟩, h => by
    rw [items, closeItemsR]
    unfold node
    by_cases c2 : hd.kind = 2
    · rw [if_pos c2, if_neg (show ¬ hd.kind = 3 by omega)]
      exact sim_items r (i + 1) i _ _ _ g2 (h.set i)
    · obtain ⟨c3, hl⟩ : hd.kind = 3 ∧ Lm k := by rcases g1 with g1 | g1; exact absurd g1 c2; exact g1
      rw [if_neg c2, if_pos (.inl c3), if_pos c3]
      exact sim_items r (i + 1) i _ _ _ g2 (sim_lam k _ R L false hl (h.set i)).1
theorem file_same (k : Tr) (hg : GdI k) : (file k).bs = (fileR k).bs ∧ (file k).ms = (fileR k).ms ∧ (file k).bad = (fileR k).bad := by
  have h0 : Sim 0 (enter 0 .none) ⟨[], [], []⟩ [] := ⟨rfl, rfl, rfl, rfl, rfl, rfl, fun _ => rfl, fun _ => rfl, trivial, fun b hb => (nomatch hb)⟩
  obtain ⟨i1, h1⟩ := sim_binds k 0 0 _ _ _ hg h0
  obtain ⟨i2, L2, h2⟩ := sim_items k 0 i1 _ _ _ hg h1
  exact ⟨h2.bs, h2.ms, h2.bad⟩
end Sc
end Go.Proofs.Ytnefnnoleeeedaa
namespace Go.Proofs.Ytnefnnoleeeedaa
open Go.RowKit Go.Op
namespace Sc
open Vm
open Ps Pg
variable {l : List Tok}
theorem gd_app : ∀ {a b : Fo}, Gd (tr a) → Gd (tr b) → Gd (tr (a.app b))
  | .nil, _, _, hb => hb
  | .cons h k r, b, ha, hb => by
    rw [tr, Gd] at ha
    rw [Fo.app, tr, Gd]
    exact ⟨ha.1, ha.2.1, ha.2.2.1, ha.2.2.2.1, gd_app ha.2.2.2.2 hb⟩
theorem gd_one {h : Hd} {k : Fo} (h2 : h.kind ≠ 2) (h3 : h.kind ≠ 3) (h5 : h.kind ≠ 5) (h28 : h.kind ≠ 28) (hk : Gd (tr k)) : Gd (tr (.one h k)) := by
  unfold Fo.one
  rw [tr, Gd]
  exact ⟨by simp only [hi_]; omega, by simp only [hi_]; omega, by simp only [hi_]; omega, by rw [if_neg (by simp only [hi_]; omega)]; exact hk, by rw [tr, Gd]; trivial⟩
theorem gd_nil : Gd (tr .nil) := by rw [tr, Gd]; trivial
def Tyk : Fo → Prop
  | .nil => True
  | .cons h k r => (h.kind = 0 ∨ 29 ≤ h.kind ∧ h.kind ≤ 34) ∧ Tyk k ∧ Tyk r
theorem Tyk.app : ∀ {a b : Fo}, Tyk a → Tyk b → Tyk (a.app b)
  | .nil, _, _, hb => hb
  | .cons _ _ _, _, ⟨h1, h2, h3⟩, hb => ⟨h1, h2, Tyk.app h3 hb⟩
theorem Tyk.silent : ∀ {k : Fo}, Tyk k → Silent (tr k)
  | .nil, _ => by rw [tr]; trivial
  | .cons h k r, ⟨h1, h2, h3⟩ => by
    rw [tr]
    simp only [Silent, hi_]
    exact ⟨by omega, by omega, by omega, by omega, by omega, by omega, by omega, fun _ => Tyk.silent h2, Tyk.silent h3⟩
theorem Tyk.gd : ∀ {k : Fo}, Tyk k → Gd (tr k)
  | .nil, _ => gd_nil
  | .cons h k r, ⟨h1, h2, h3⟩ => by
    rw [tr, Gd]
    exact ⟨by simp only [hi_]; omega, by simp only [hi_]; omega, by simp only [hi_]; omega, by rw [if_neg (by simp only [hi_]; omega)]; exact Tyk.gd h2, Tyk.gd h3⟩
theorem Tyk.one {h : Hd} {k : Fo} (hh : 29 ≤ h.kind ∧ h.kind ≤ 34) (hk : Tyk k) : Tyk (.one h k) := ⟨.inr hh, hk, trivial⟩
theorem Tyk.zero : Tyk .zero := ⟨.inl rfl, trivial, trivial⟩
theorem ty_tyk : ∀ (f : Nat) (t : TT) (b : Int) (i : Nat) (r : Fo × Nat × Int), tyM l f t b i = some r → Tyk r.1 ∧ (t = .kind → ∃ h k, r.1 = .one h k) := by
  intro f
  induction f with
  | zero => intro t b i r h; rw [tyM] at h; cases h
  | succ f ih =>
    intro t b i r h
    cases t with
    | kind =>
      rw [tyM] at h
      split at h
      · injection h with h; subst h; exact ⟨Tyk.zero, fun _ => ⟨_, _, rfl⟩⟩
      · split at h
        · injection h with h; subst h; exact ⟨Tyk.one (by dsimp only; omega) trivial, fun _ => ⟨_, _, rfl⟩⟩
        · split at h
          · injection h with h; subst h; exact ⟨Tyk.one (by dsimp only; omega) trivial, fun _ => ⟨_, _, rfl⟩⟩
          · split at h
            · injection h with h; subst h; exact ⟨Tyk.one (by dsimp only; omega) trivial, fun _ => ⟨_, _, rfl⟩⟩
            · split at h
              · obtain ⟨x, hx, h⟩ := Option.bind_eq_some_iff.1 h
                injection h with h; subst h
                exact ⟨Tyk.one (by dsimp only; omega) (ih _ _ _ _ hx).1, fun _ => ⟨_, _, rfl⟩⟩
              · obtain ⟨x, hx, h⟩ := Option.bind_eq_some_iff.1 h
                obtain ⟨t, ht, h⟩ := Option.bind_eq_some_iff.1 h
                injection h with h; subst h
                exact ⟨Tyk.one (by dsimp only; omega) (Tyk.app (ih _ _ _ _ hx).1 (ih _ _ _ _ ht).1), fun _ => ⟨_, _, rfl⟩⟩
    | recL first =>
      refine ⟨?_, fun e => by cases e⟩
      rw [tyM] at h
      split at h
      · obtain ⟨t, ht, h⟩ := Option.bind_eq_some_iff.1 h
        have key : Tyk (.one { (wordM l b ⟨33, i, 0, e0, 0⟩ i).1 with til := t.2.1 } t.1) := Tyk.one (by dsimp only; rw [word_kind]; dsimp only; omega) (ih _ _ _ _ ht).1
        split at h
        · injection h with h; subst h
          exact key
        · obtain ⟨x, hx, h⟩ := Option.map_eq_some_iff.1 h
          subst h
          exact Tyk.app key (ih _ _ _ _ hx).1
      · injection h with h; subst h; exact trivial
    | fnL first =>
      refine ⟨?_, fun e => by cases e⟩
      rw [tyM] at h
      split at h
      · obtain ⟨t, ht, h⟩ := Option.bind_eq_some_iff.1 h
        split at h
        · injection h with h; subst h
          exact (ih _ _ _ _ ht).1
        · obtain ⟨x, hx, h⟩ := Option.map_eq_some_iff.1 h
          subst h
          exact Tyk.app (ih _ _ _ _ ht).1 (ih _ _ _ _ hx).1
      · injection h with h; subst h; exact trivial
theorem typed_tyk {f : Nat} {b : Int} {i : Nat} {r : Fo × Nat × Int} (h : typedM l f b i = some r) : Tyk r.1 ∧ ∃ h k, r.1 = .one h k := by
  unfold typedM at h
  split at h
  · injection h with h; subst h; exact ⟨Tyk.zero, _, _, rfl⟩
  · have := ty_tyk _ _ _ _ _ h
    exact ⟨this.1, this.2 rfl⟩
theorem allk_app : ∀ {a b : Fo}, AllK 5 (tr a) → AllK 5 (tr b) → AllK 5 (tr (a.app b))
  | .nil, _, _, hb => hb
  | .cons h k r, b, ha, hb => by
    rw [tr] at ha
    rw [Fo.app, tr]
    exact ⟨ha.1, allk_app ha.2 hb⟩
theorem par_allk : ∀ (f : Nat) (first : Bool) (b : Int) (i : Nat) (r : Fo × Nat × Int), parL l f first b i = some r → AllK 5 (tr r.1) := by
  intro f
  induction f with
  | zero => intro first b i r h; rw [parL] at h; cases h
  | succ f ih =>
    intro first b i r h
    rw [parL] at h
    split at h
    · obtain ⟨t, ht, h⟩ := Option.bind_eq_some_iff.1 h
      have key : AllK 5 (tr (.one { (wordM l b ⟨5, i, 0, e0, 0⟩ i).1 with til := t.2.1 } t.1)) := by
        unfold Fo.one
        rw [tr]
        refine ⟨?_, by rw [tr]; trivial⟩
        simp only [hi_]
        rw [word_kind]
        rfl
      split at h
      · injection h with h; subst h; exact key
      · obtain ⟨x, hx, h⟩ := Option.map_eq_some_iff.1 h
        subst h
        exact allk_app key (ih _ _ _ _ hx)
    · injection h with h; subst h; rw [tr]; trivial
theorem params_gd {f : Nat} {b : Int} {i : Nat} {r : Fo × Nat × Int} (h : paramsM l f b i = some r) : ∃ h k, r.1 = .one h k ∧ h.kind = 4 ∧ AllK 5 (tr k) := by
  unfold paramsM at h
  obtain ⟨x, hx, h⟩ := Option.bind_eq_some_iff.1 h
  injection h with h; subst h
  exact ⟨_, _, rfl, rfl, par_allk _ _ _ _ _ hx⟩
def PX : XT → Prop
  | .sumL a | .termL a | .postL a => Gd (tr a)
  | _ => True
def GX : XT → Fo → Prop
  | .lambda, k => Lm (tr k)
  | .block, k => ∃ h kk, k = .one h kk ∧ h.kind = 6 ∧ Gd (tr kk)
  | _, k => Gd (tr k)
theorem blk_gd {k : Fo} (h : ∃ h kk, k = .one h kk ∧ h.kind = 6 ∧ Gd (tr kk)) : Gd (tr k) := by
  obtain ⟨h, kk, rfl, h6, hk⟩ := h
  exact gd_one (by omega) (by omega) (by omega) (by omega) hk
theorem gd_zero : Gd (tr .zero) := Tyk.zero.gd
theorem ex_gd : ∀ (f : Nat) (t : XT) (b : Int) (i : Nat) (r : Fo × Nat × Int), exM l f t b i = some r → PX t → GX t r.1 := by
  intro f
  induction f with
  | zero => intro t b i r h; rw [exM] at h; cases h
  | succ f ih =>
    intro t b i r h hpre
    cases t with
    | lambda =>
      rw [exM] at h
      obtain ⟨p, h1, h⟩ := Option.bind_eq_some_iff.1 h
      obtain ⟨t, h2, h⟩ := Option.bind_eq_some_iff.1 h
      obtain ⟨k, h3, h⟩ := Option.bind_eq_some_iff.1 h
      injection h with h; subst h
      obtain ⟨hp, kp, e1, p1, p2⟩ := params_gd h1
      obtain ⟨t1, ht, kt, e2⟩ := typed_tyk h2
      obtain ⟨hb, kb, e3, b1, b2⟩ := ih _ _ _ _ h3 trivial
      have ts := t1.silent
      rw [e2] at ts
      show Lm (tr (p.1.app (t.1.app k.1)))
      rw [e1, e2, e3]
      simp only [Fo.one, Fo.app, tr] at ts ⊢
      rw [Lm]
      exact ⟨by simp only [hi_]; omega, p2, ts, by simp only [hi_]; omega, b2⟩
    | block =>
      rw [exM] at h
      obtain ⟨x, h1, h⟩ := Option.bind_eq_some_iff.1 h
      injection h with h; subst h
      exact ⟨_, _, rfl, rfl, ih _ _ _ _ h1 trivial⟩
    | stmts =>
      rw [exM] at h
      split at h
      · obtain ⟨x, h1, h⟩ := Option.bind_eq_some_iff.1 h
        obtain ⟨y, h2, h⟩ := Option.map_eq_some_iff.1 h
        subst h
        exact gd_app (ih _ _ _ _ h1 trivial) (ih _ _ _ _ h2 trivial)
      · injection h with h; subst h; exact gd_nil
    | stmt =>
      rw [exM] at h
      split at h
      · obtain ⟨c, h1, h⟩ := Option.bind_eq_some_iff.1 h
        obtain ⟨k, h2, h⟩ := Option.bind_eq_some_iff.1 h
        have gk := blk_gd (ih _ _ _ _ h2 trivial)
        have gc := ih _ _ _ _ h1 trivial
        split at h
        · obtain ⟨o, h3, h⟩ := Option.bind_eq_some_iff.1 h
          injection h with h; subst h
          exact gd_one (by dsimp only; omega) (by dsimp only; omega) (by dsimp only; omega) (by dsimp only; omega) (gd_app gc (gd_app gk (blk_gd (ih _ _ _ _ h3 trivial))))
        · injection h with h; subst h
          exact gd_one (by dsimp only; omega) (by dsimp only; omega) (by dsimp only; omega) (by dsimp only; omega) (gd_app gc (gd_app gk gd_zero))
      · split at h
        · obtain ⟨c, h1, h⟩ := Option.bind_eq_some_iff.1 h
          obtain ⟨k, h2, h⟩ := Option.bind_eq_some_iff.1 h
          injection h with h; subst h
          exact gd_one (by dsimp only; omega) (by dsimp only; omega) (by dsimp only; omega) (by dsimp only; omega) (gd_app (ih _ _ _ _ h1 trivial) (blk_gd (ih _ _ _ _ h2 trivial)))
        · split at h
          · obtain ⟨t, h1, h⟩ := Option.bind_eq_some_iff.1 h
            obtain ⟨v, h2, h⟩ := Option.bind_eq_some_iff.1 h
            injection h with h; subst h
            have hk : ((wordM l b ⟨7, i, 0, e0, 0⟩ (i + 1)).1).kind = 7 := word_kind _ _ _
            exact gd_one (by dsimp only; omega) (by dsimp only; omega) (by dsimp only; omega) (by dsimp only; omega) (gd_app (typed_tyk h1).1.gd (ih _ _ _ _ h2 trivial))
          · dsimp only at h
            obtain ⟨v, h2, h⟩ := Option.bind_eq_some_iff.1 h
            injection h with h; subst h
            have hv := ih _ _ _ _ h2 trivial
            have hk8 : ((wordM l b ⟨8, i, 0, e0, 0⟩ i).1).kind = 8 := word_kind _ _ _
            refine gd_one ?_ ?_ ?_ ?_ hv <;> dsimp only <;> (repeat' split) <;> dsimp only <;> omega
    | expr =>
      rw [exM] at h
      obtain ⟨a, h1, h⟩ := Option.bind_eq_some_iff.1 h
      have ha := ih _ _ _ _ h1 trivial
      split at h
      · injection h with h; subst h
        exact ha
      · obtain ⟨c, h2, h⟩ := Option.bind_eq_some_iff.1 h
        injection h with h; subst h
        exact gd_one (by dsimp only; split <;> omega) (by dsimp only; split <;> omega) (by dsimp only; split <;> omega) (by dsimp only; split <;> omega) (gd_app ha (ih _ _ _ _ h2 trivial))
    | sum =>
      rw [exM] at h
      obtain ⟨a, h1, h⟩ := Option.bind_eq_some_iff.1 h
      have g := ih _ _ _ _ h (ih _ _ _ _ h1 trivial)
      exact g
    | term =>
      rw [exM] at h
      obtain ⟨a, h1, h⟩ := Option.bind_eq_some_iff.1 h
      have g := ih _ _ _ _ h (ih _ _ _ _ h1 trivial)
      exact g
    | post =>
      rw [exM] at h
      obtain ⟨a, h1, h⟩ := Option.bind_eq_some_iff.1 h
      have g := ih _ _ _ _ h (ih _ _ _ _ h1 trivial)
      exact g
    | sumL a =>
      have pa : Gd (tr a) := hpre
      rw [exM] at h
      split at h
      · obtain ⟨c, h1, h⟩ := Option.bind_eq_some_iff.1 h
        have g := ih _ _ _ _ h (gd_one (by dsimp only; split <;> omega) (by dsimp only; split <;> omega) (by dsimp only; split <;> omega) (by dsimp only; split <;> omega) (gd_app pa (ih _ _ _ _ h1 trivial)))
        exact g
      · injection h with h; subst h; exact pa
    | termL a =>
      have pa : Gd (tr a) := hpre
      rw [exM] at h
      split at h
      · obtain ⟨c, h1, h⟩ := Option.bind_eq_some_iff.1 h
        have g := ih _ _ _ _ h (gd_one (by dsimp only; omega) (by dsimp only; omega) (by dsimp only; omega) (by dsimp only; omega) (gd_app pa (ih _ _ _ _ h1 trivial)))
        exact g
      · injection h with h; subst h; exact pa
    | postL a =>
      have pa : Gd (tr a) := hpre
      rw [exM] at h
      split at h
      · split at h
        · have hk : ((wordM l b ⟨19, a.from_, 0, e0, 0⟩ (i + 1)).1).kind = 19 := word_kind _ _ _
          have g := ih _ _ _ _ h (gd_one (by dsimp only; omega) (by dsimp only; omega) (by dsimp only; omega) (by dsimp only; omega) pa)
          exact g
        · obtain ⟨k, h1, h⟩ := Option.bind_eq_some_iff.1 h
          have g := ih _ _ _ _ h (gd_one (by dsimp only; omega) (by dsimp only; omega) (by dsimp only; omega) (by dsimp only; omega) (gd_app pa (ih _ _ _ _ h1 trivial)))
          exact g
      · injection h with h; subst h; exact pa
    | args first =>
      rw [exM] at h
      split at h
      · obtain ⟨t, h1, h⟩ := Option.bind_eq_some_iff.1 h
        have g1 := ih _ _ _ _ h1 trivial
        split at h
        · injection h with h; subst h
          exact g1
        · obtain ⟨y, h2, h⟩ := Option.map_eq_some_iff.1 h
          subst h
          exact gd_app g1 (ih _ _ _ _ h2 trivial)
      · injection h with h; subst h; exact gd_nil
    | atom =>
      have leaf : ∀ kd fr ti : Nat, ∀ wd : ByteArray, ∀ at_ : Nat, kd ≠ 2 → kd ≠ 3 → kd ≠ 5 → kd ≠ 28 → Gd (tr (.one ⟨kd, fr, ti, wd, at_⟩ .nil)) := fun kd fr ti wd at_ k2 k3 k5 k28 => gd_one k2 k3 k5 k28 gd_nil
      rw [exM] at h
      split at h
      · injection h with h; subst h; exact gd_zero
      · split at h
        · injection h with h; subst h; exact leaf _ _ _ _ _ (by omega) (by omega) (by omega) (by omega)
        · split at h
          · injection h with h; subst h; exact leaf _ _ _ _ _ (by omega) (by omega) (by omega) (by omega)
          · split at h
            · injection h with h; subst h; exact leaf _ _ _ _ _ (by omega) (by omega) (by omega) (by omega)
            · split at h
              · injection h with h; subst h; exact leaf _ _ _ _ _ (by omega) (by omega) (by omega) (by omega)
              · split at h
                · obtain ⟨x, h1, h⟩ := Option.bind_eq_some_iff.1 h
                  injection h with h; subst h
                  exact gd_one (by dsimp only; omega) (by dsimp only; omega) (by dsimp only; omega) (by dsimp only; omega) (ih _ _ _ _ h1 trivial)
                · split at h
                  · obtain ⟨x, h1, h⟩ := Option.bind_eq_some_iff.1 h
                    injection h with h; subst h
                    exact gd_one (by dsimp only; omega) (by dsimp only; omega) (by dsimp only; omega) (by dsimp only; omega) (ih _ _ _ _ h1 trivial)
                  · obtain ⟨k, h1, h⟩ := Option.bind_eq_some_iff.1 h
                    injection h with h; subst h
                    have hl : Lm (tr k.1) := ih _ _ _ _ h1 trivial
                    show Gd (tr (.one _ _))
                    unfold Fo.one
                    rw [tr, Gd]
                    exact ⟨by simp only [hi_]; omega, by simp only [hi_]; omega, by simp only [hi_]; omega, by rw [if_pos (by simp only [hi_]; rfl)]; exact hl, gd_nil⟩
    | entries first =>
      rw [exM] at h
      split at h
      · obtain ⟨t, h1, h⟩ := Option.bind_eq_some_iff.1 h
        have hk : ((wordM l b ⟨27, i, 0, e0, 0⟩ i).1).kind = 27 := word_kind _ _ _
        have key : Gd (tr (.one { (wordM l b ⟨27, i, 0, e0, 0⟩ i).1 with til := t.2.1 } t.1)) := gd_one (by dsimp only; omega) (by dsimp only; omega) (by dsimp only; omega) (by dsimp only; omega) (ih _ _ _ _ h1 trivial)
        split at h
        · injection h with h; subst h; exact key
        · obtain ⟨y, h2, h⟩ := Option.map_eq_some_iff.1 h
          subst h
          exact gd_app key (ih _ _ _ _ h2 trivial)
      · injection h with h; subst h; exact gd_nil
theorem gdi_app : ∀ {a b : Fo}, GdI (tr a) → GdI (tr b) → GdI (tr (a.app b))
  | .nil, _, _, hb => hb
  | .cons h k r, b, ha, hb => by
    rw [tr] at ha
    rw [Fo.app, tr]
    exact ⟨ha.1, gdi_app ha.2 hb⟩
theorem items_gd : ∀ (f : Nat) (b : Int) (i : Nat) (r : Fo × Nat × Int), itemsM l f b i = some r → GdI (tr r.1) := by
  intro f
  induction f with
  | zero => intro b i r h; rw [itemsM] at h; cases h
  | succ f ih =>
    intro b i r h
    rw [itemsM] at h
    split at h
    · split at h
      · obtain ⟨x, h1, h⟩ := Option.map_eq_some_iff.1 h
        subst h
        refine gdi_app ?_ (ih _ _ _ h1)
        unfold useM
        dsimp only
        unfold Fo.one
        rw [tr]
        refine ⟨.inl ?_, by rw [tr]; trivial⟩
        simp only [hi_]
        rw [word_kind]
        rfl
      · obtain ⟨t, h0, h⟩ := Option.bind_eq_some_iff.1 h
        obtain ⟨x, h1, h⟩ := Option.map_eq_some_iff.1 h
        subst h
        unfold defM at h0
        obtain ⟨k, hk, h0⟩ := Option.bind_eq_some_iff.1 h0
        injection h0 with h0
        subst h0
        refine gdi_app ?_ (ih _ _ _ h1)
        have hl : Lm (tr k.1) := ex_gd _ _ _ _ _ hk trivial
        dsimp only
        unfold Fo.one
        rw [tr]
        refine ⟨.inr ⟨?_, hl⟩, by rw [tr]; trivial⟩
        simp only [hi_]
        rw [word_kind]
        rfl
    · injection h with h
      subst h
      rw [tr]
      exact trivial
end Sc
end Go.Proofs.Ytnefnnoleeeedaa
namespace Go.Proofs.Ytnefnnoleeeedaa
open Go.RowKit Go.Op
namespace Sc
open Ps Sb
theorem uses_len (s : St) (i : Nat) : (usesS s i).length = (usesL s i).length := List.length_mergeSort _
set_option maxHeartbeats 8000000 in
set_option maxRecDepth 100000 in
theorem awake_any (w : World) : Calls Try.prog 8 #[] w fun e w' => e = .returned (.bool true) ∧ Below w.heap.size w w' := by
  have CO := Lib.hid (Pg.rof_any awS (by decide) w)
  go_enter Try.func8, Try.ntmps8
  go_wp2_with fail
  refine CO.out.mono ?_
  rintro e w1 ⟨hb, ho⟩
  rw [aw_of] at ho
  obtain ⟨A, c, A1, c1, rfl, _, _, hk⟩ := ho
  obtain ⟨W2, hW2⟩ : ∃ W2, W2 = w1.alloc (.cells (hcc (hi_ awH) A1 awK.len c1) 25) := ⟨_, rfl⟩
  have B2 : Below w.heap.size w W2 := by rw [hW2]; exact hb.alloc hb.size _
  have hk2 : TV W2 W2.heap.size (tr awK) A1 c1 := by
    rw [hW2]
    exact tv_of (fun g _ hg => hg) aw_words (hk.below (belA w1 _))
  have CP := Lib.hid (of_any (hi_ awH) (tr awK) A1 c1 hk2 aw_cnt)
  rw [tr_len] at CP
  have HB2 := Lib.hid B2
  have HW2 := Lib.hid hW2
  obtain ⟨nk, hnk⟩ : ∃ nk, nk = awK.len := ⟨_, rfl⟩
  obtain ⟨st, hst⟩ : ∃ st, st = ofS (hi_ awH) (tr awK) := ⟨_, rfl⟩
  have F1 : Hid (st.bs.length = 3) := by rw [hst]; exact aw_bs
  have F2 : Hid (st.ms.length = 4) := by rw [hst]; exact aw_ms
  have F3 : Hid (st.bad.length = 0) := by rw [hst, aw_bad]; rfl
  have F4 : Hid ((usesS st 2).length = 3) := by unfold Hid; rw [uses_len, hst]; exact aw_uses
  have F5 : Hid (anyW 2 st.ms = true) := by rw [hst]; exact aw_w2
  have F6 : Hid (anyW 1 st.ms = false) := by rw [hst]; exact aw_w1
  rw [← hst] at CP
  rw [← hnk] at CP HW2 ⊢
  have HW2 : Hid (W2 = w1.alloc (.cells #[.int .i64 1, .int .i64 0, .int .i64 18, .string ⟨#[]⟩, .int .i64 0, .slice A1 nk c1] 25)) := HW2.out
  have CP : Hid (Calls Try.prog 10 #[.agg #[.int .i64 1, .int .i64 0, .int .i64 18, .string ⟨#[]⟩, .int .i64 0, .slice A1 nk c1]] W2 (OfA W2 st)) := CP.out
  simp only [awH]
  clear hb hk hk2 B2 hW2 hnk hst CO
  go_wp2_with fail
  rw [← HW2.out]
  refine CP.out.mono ?_
  rintro e w3 ⟨B1, d1, B2, d2, B3, d3, l3, rfl, _, hr1, hr2, _, _, _, _, _, hb3⟩
  have HB3 := Lib.hid (HB2.out.trans (hb3.mono HB2.out.size))
  obtain ⟨W4, hW4⟩ : ∃ W4, W4 = w3.alloc (.cells #[.slice B1 3 d1, .slice B2 4 d2, .slice B3 0 d3] 34) := ⟨_, rfl⟩
  have HB4 : Hid (Below w.heap.size w W4) := by rw [hW4]; exact HB3.out.alloc HB3.out.size _
  have hs4 : W4.heap.size = w3.heap.size + 1 := by rw [hW4]; simp
  have R1 := hr1.keep (w' := W4) fun g _ h => by rw [hW4]; exact Below.heap_alloc _ _ _ h
  have R2 := hr2.keep (w' := W4) fun g _ h => by rw [hW4]; exact Below.heap_alloc _ _ _ h
  have RM := Lib.hid (show RowB W4 w3.heap.size 34 #[.slice B1 3 d1, .slice B2 4 d2, .slice B3 0 d3] by rw [hW4]; exact RowB.new w3 34 _)
  have CU := uses_any (A3 := B3) (c1 := d1) (c2 := d2) (n3 := 0) (c3 := d3) (i := 2) R1 R2 (by omega) (by rw [F1.out]; decide) (by rw [F2.out]; decide) (by rw [F1.out]; decide)
  rw [F1.out, F2.out] at CU ⊢
  rw [F3.out]
  have CU := Lib.hid CU
  have HR2 := Lib.hid R2
  have HS4 := Lib.hid (show w3.heap.size ≤ W4.heap.size by omega)
  have HW4 := Lib.hid hW4
  simp only [mapv] at CU
  have y4 := RM.out.cell
  clear hr1 hr2 hb3 R1 R2 hs4 CP HW2
  have z4 := y4
  rw [hW4] at z4
  clear hW4
  go_wp2_with fail
  rw [← HW4.out]
  clear z4
  refine CU.out.mono ?_
  rintro e w5 ⟨A5, c5, rfl, hc5, _, hb5⟩
  rw [F4.out]
  have HB5 := Lib.hid (HB4.out.trans (hb5.mono HB4.out.size))
  have RM5 := Lib.hid (RM.out.below hb5 RM.out.lt)
  have R25 := Lib.hid (HR2.out.keep (w' := w5) fun g _ h => hb5.block g (by have := HS4.out; omega))
  have HS5 : Hid (w3.heap.size ≤ w5.heap.size) := Nat.le_trans HS4.out hb5.size
  have CW := written_any (A1 := B1) (A3 := B3) (n1 := 3) (c1 := d1) (c2 := d2) (n3 := 0) (c3 := d3) 2 R25.out HS5.out (by rw [F2.out]; decide)
  rw [F2.out, F5.out, show (hasB 3 2 && true) = true from rfl] at CW
  have CW := Lib.hid CW
  have y5 := RM5.out.cell
  simp only [mapv] at CW
  clear hb5 CU y4 HR2 RM HS4 HW4 HB4
  go_wp2_with fail
  refine CW.out.mono ?_
  rintro e w6 ⟨rfl, hb6⟩
  have HB6 := Lib.hid (HB5.out.trans (hb6.mono HB5.out.size))
  have RM6 := Lib.hid (RM5.out.below hb6 RM5.out.lt)
  have R26 := Lib.hid (R25.out.keep (w' := w6) fun g _ h => hb6.block g (by have := HS5.out; omega))
  have HS6 : Hid (w3.heap.size ≤ w6.heap.size) := Nat.le_trans HS5.out hb6.size
  have CV := written_any (A1 := B1) (A3 := B3) (n1 := 3) (c1 := d1) (c2 := d2) (n3 := 0) (c3 := d3) 1 R26.out HS6.out (by rw [F2.out]; decide)
  rw [F2.out, F6.out, show (hasB 3 1 && false) = false from rfl] at CV
  have CV := Lib.hid CV
  have y6 := RM6.out.cell
  simp only [mapv] at CV
  clear hb6 CW y5 RM5 R25 HS5 HB5
  go_wp2_with fail
  refine CV.out.mono ?_
  rintro e w7 ⟨rfl, hb7⟩
  have HB7 := Lib.hid (HB6.out.trans (hb7.mono HB6.out.size))
  have RM7 := Lib.hid (RM6.out.below hb7 RM6.out.lt)
  have y7 := RM7.out.cell
  clear hb7 CV y6 RM6 R26 HS6 HB6
  go_wp2_with fail
  (first | go_ret | go_ret2)
  exact ⟨by first | rfl | simp, HB7.out⟩
end Sc
end Go.Proofs.Ytnefnnoleeeedaa
namespace Go.Proofs.Ytnefnnoleeeedaa
open Go.RowKit Go.Op
namespace Sc
open Vm
open Sb
end Sc
end Go.Proofs.Ytnefnnoleeeedaa
namespace Go.Proofs.Ytnefnnoleeeedaa
open Go.RowKit Go.Op
namespace Sc
open Vm
end Sc
end Go.Proofs.Ytnefnnoleeeedaa
namespace Go.Proofs.Ytnefnnoleeeedaa
open Go.RowKit Go.Op
namespace Sc
open Vm
open Sb
theorem bl_iff {x y : ByteArray} : x.toList = y.toList ↔ x = y := by
  rw [ByteArray.toList_eq, ByteArray.toList_eq]
  constructor
  · intro h
    have h4 : x.data = y.data := Array.toList_inj.1 h
    obtain ⟨⟨xx⟩⟩ := x
    obtain ⟨⟨yy⟩⟩ := y
    simp only at h4
    rw [h4]
  · rintro rfl
    rfl
end Sc
end Go.Proofs.Ytnefnnoleeeedaa
namespace Go.Proofs.Ytnefnnoleeeedaa
open Go.RowKit Go.Op
namespace Sc
open Vm
open Sb
end Sc
end Go.Proofs.Ytnefnnoleeeedaa
namespace Go.Proofs.Ytnefnnoleeeedaa
open Go.RowKit Go.Op
namespace Sc
open Vm
def WR (x : Rm × List Nm) : Prop := ∃ wn : List Int, wn.length = x.1.bs.length ∧ Wi wn x.1.bs.length x.2
theorem WR.bind {x : Rm × List Nm} (h : WR x) (a : Int) (wd : ByteArray) (kd it : Int) : WR (bindR a wd kd it x) := by
  obtain ⟨wn, h1, h2⟩ := h
  have hl : (bindR a wd kd it x).1.bs.length = x.1.bs.length + 1 := by unfold bindR; simp
  refine ⟨wn ++ [lc x.2], by rw [hl]; simp [h1], ?_⟩
  rw [hl]
  refine ⟨.inr ⟨by show x.1.bs.length < _; omega, ?_⟩, h2.ext ⟨_, rfl⟩ (by omega)⟩
  show (wn ++ [lc x.2])[x.1.bs.length]? = _
  rw [← h1, List.getElem?_append_right (Nat.le_refl _)]
  simp
theorem WR.begin {R : Rm} {L : List Nm} (h : WR (R, L)) (lam : Bool) : WR (R, ⟨0, true, lam⟩ :: L) := by
  obtain ⟨wn, h1, h2⟩ := h
  exact ⟨wn, h1, .inl rfl, h2⟩
theorem WR.mention {x : Rm × List Nm} (h : WR x) (a : Int) (wd : ByteArray) (wr : Bool) : WR (mentionR a wd wr x, x.2) := by
  obtain ⟨wn, h1, h2⟩ := h
  exact ⟨wn, by rw [mentionR_bs]; exact h1, by rw [mentionR_bs]; exact h2⟩
theorem WR.back {x y : Rm × List Nm} (h : WR x) (hb : x.1.bs.length ≤ y.1.bs.length) : WR (y.1, x.2) := by
  obtain ⟨wn, h1, h2⟩ := h
  refine ⟨wn ++ List.replicate (y.1.bs.length - x.1.bs.length) 0, by simp [h1]; omega, h2.ext ⟨_, rfl⟩ hb⟩
theorem bindR_len (a : Int) (wd : ByteArray) (kd it : Int) (x : Rm × List Nm) : (bindR a wd kd it x).1.bs.length = x.1.bs.length + 1 ∧ (bindR a wd kd it x).2.length = x.2.length + 1 := by
  unfold bindR
  simp
theorem bindsR_ok (kd it : Int) : ∀ (k : Tr) (x : Rm × List Nm), WR x → WR (bindsR kd it k x) ∧ x.1.bs.length ≤ (bindsR kd it k x).1.bs.length ∧ (bindsR kd it k x).2.length = x.2.length + k.len
  | .nil, x, h => by rw [bindsR, Tr.len]; exact ⟨h, Nat.le_refl _, rfl⟩
  | .cons hd k r, x, h => by
    rw [bindsR, Tr.len]
    obtain ⟨i1, i2, i3⟩ := bindsR_ok kd it r _ (h.bind hd.at_ hd.word kd it)
    obtain ⟨l1, l2⟩ := bindR_len hd.at_ hd.word kd it x
    exact ⟨i1, by omega, by omega⟩
mutual
theorem nodesR_ok (it : Int) : ∀ (k : Tr) (x : Rm × List Nm), WR x → WR (nodesR it k x) ∧ x.1.bs.length ≤ (nodesR it k x).1.bs.length ∧ (nodesR it k x).2.length ≤ x.2.length + k.cnt
  | .nil, x, h => by rw [nodesR]; exact ⟨h, Nat.le_refl _, by omega⟩
  | .cons hd k r, x, h => by
    rw [nodesR, Tr.cnt]
    have go : ∀ y : Rm × List Nm, WR y → x.1.bs.length ≤ y.1.bs.length → y.2.length ≤ x.2.length + k.cnt + 1 → WR (nodesR it r y) ∧ x.1.bs.length ≤ (nodesR it r y).1.bs.length ∧ (nodesR it r y).2.length ≤ x.2.length + (k.cnt + r.cnt + 1) := fun y h1 h2 h3 => by
      obtain ⟨i1, i2, i3⟩ := nodesR_ok it r y h1
      exact ⟨i1, by omega, by omega⟩
    split
    · exact go _ (h.mention _ _ _) (by rw [mentionR_bs]; exact Nat.le_refl _) (by show x.2.length ≤ _; omega)
    · split
      · obtain ⟨i1, i2, i3⟩ := nodesR_ok it k _ (h.mention hd.at_ hd.word true)
        rw [mentionR_bs] at i2
        exact go _ i1 i2 (by have : (mentionR hd.at_ hd.word true x, x.2).2.length = x.2.length := rfl; omega)
      · split
        · obtain ⟨i1, i2, i3⟩ := lamR_ok it true k x h
          exact go _ i1 i2 (by omega)
        · split
          · obtain ⟨i1, i2, i3⟩ := nodesR_ok it k _ (WR.begin (R := x.1) (L := x.2) h false)
            exact go _ (h.back i2) i2 (by show x.2.length ≤ _; omega)
          · split
            · obtain ⟨i1, i2, i3⟩ := nodesR_ok it k x h
              obtain ⟨l1, l2⟩ := bindR_len hd.at_ hd.word 4 it (nodesR it k x)
              exact go _ (i1.bind _ _ _ _) (by omega) (by omega)
            · obtain ⟨i1, i2, i3⟩ := nodesR_ok it k x h
              exact go _ i1 i2 (by omega)
theorem lamR_ok (it : Int) (lam : Bool) : ∀ (k : Tr) (x : Rm × List Nm), WR x → WR (lamR it lam k x) ∧ x.1.bs.length ≤ (lamR it lam k x).1.bs.length ∧ (lamR it lam k x).2.length = x.2.length
  | .cons _ kp (.cons _ _ (.cons hb kb .nil)), x, h => by
    rw [lamR]
    obtain ⟨i1, i2, i3⟩ := bindsR_ok 3 it kp _ (WR.begin (R := x.1) (L := x.2) h lam)
    obtain ⟨j1, j2, j3⟩ := nodesR_ok it kb _ (WR.begin (R := (bindsR 3 it kp (x.1, ⟨0, true, lam⟩ :: x.2)).1) (L := (bindsR 3 it kp (x.1, ⟨0, true, lam⟩ :: x.2)).2) i1 false)
    have hx : x.1.bs.length ≤ (nodesR it kb ((bindsR 3 it kp (x.1, ⟨0, true, lam⟩ :: x.2)).1, ⟨0, true, false⟩ :: (bindsR 3 it kp (x.1, ⟨0, true, lam⟩ :: x.2)).2)).1.bs.length := Nat.le_trans i2 j2
    exact ⟨h.back hx, hx, rfl⟩
  | .nil, x, h => by rw [lamR]; exact ⟨h, Nat.le_refl _, rfl⟩; all_goals (intros; simp_all)
  | .cons _ _ .nil, x, h => by rw [lamR]; exact ⟨h, Nat.le_refl _, rfl⟩; all_goals (intros; simp_all)
  | .cons _ _ (.cons _ _ .nil), x, h => by rw [lamR]; exact ⟨h, Nat.le_refl _, rfl⟩; all_goals (intros; simp_all)
  | .cons _ _ (.cons _ _ (.cons _ _ (.cons _ _ _))), x, h => by rw [lamR]; exact ⟨h, Nat.le_refl _, rfl⟩; all_goals (intros; simp_all)
end
end Sc
end Go.Proofs.Ytnefnnoleeeedaa
namespace Go.Proofs.Ytnefnnoleeeedaa
open Go.RowKit Go.Op
namespace Sc
open Vm
end Sc
end Go.Proofs.Ytnefnnoleeeedaa
namespace Go.Proofs.Ytnefnnoleeeedaa
open Go.RowKit Go.Op
namespace Sc
open Vm
end Sc
end Go.Proofs.Ytnefnnoleeeedaa
namespace Go.Proofs.Ytnefnnoleeeedaa
open Go.RowKit Go.Op
namespace Sc
open Vm
end Sc
end Go.Proofs.Ytnefnnoleeeedaa
namespace Go.Proofs.Ytnefnnoleeeedaa
open Go.RowKit Go.Op
namespace Sc
open Vm
open Sb
theorem row_up {α : Type} {w w' : World} {f : α → List Value} {sz : Nat} {A : Option Addr} {l : List α} {lo hi : Nat} (h : RowAt w lo hi f sz A l) (hh : hi ≤ w.heap.size) (hb : Below w.heap.size w w') : RowAt w' lo w'.heap.size f sz A l := fun h0 => by
  obtain ⟨g, e, h1, h2, h3⟩ := h h0
  exact ⟨g, e, h1, by have := hb.size; omega, fun i x hx j u hj => (hb.cell (p := ⟨g, i * sz + j, none⟩) (by show g < _; omega)).trans (h3 i x hx j u hj)⟩
end Sc
end Go.Proofs.Ytnefnnoleeeedaa
namespace Go.Proofs.Ytnefnnoleeeedaa
open Go.RowKit Go.Op
namespace Sc
open Vm
open Sb
end Sc
end Go.Proofs.Ytnefnnoleeeedaa
namespace Go.Proofs.Ytnefnnoleeeedaa
open Go.RowKit Go.Op
namespace Sc
open Vm
open Sb
theorem row_fin {α : Type} {Wc W : World} {lo hi lo' hi' : Nat} {f : α → List Value} {sz : Nat} {A : Option Addr} {l : List α} (h : RowAt Wc lo hi f sz A l) (hl : lo' ≤ lo) (hh : hi ≤ hi') (hb : ∀ g, A = some ⟨g, 0, none⟩ → lo ≤ g → g < hi → W.heap[g]? = Wc.heap[g]?) : RowAt W lo' hi' f sz A l := fun h0 => by
  obtain ⟨g, e, h1, h2, h3⟩ := h h0
  exact ⟨g, e, by omega, by omega, fun i x hx j u hj => (World.cell?_of_block (w := Wc) (hb g e h1 h2)).trans (h3 i x hx j u hj)⟩
end Sc
end Go.Proofs.Ytnefnnoleeeedaa
