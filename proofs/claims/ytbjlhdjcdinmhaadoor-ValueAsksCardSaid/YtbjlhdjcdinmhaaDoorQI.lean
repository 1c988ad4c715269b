/- Values: QI. -/
import Derived.Test.YtbjlhdjcdinmhaaDoorQH
import Derived.Shelf.SlSortCmp.Whole1
import Derived.Lib.Strings
import Derived.Lib.Slices
import Derived.Lib.Walk
import Derived.Lib.Bytealg
import Derived.BigQuiet
namespace Go.Proofs.YtbjlhdjcdinmhaaDoor
open Go.RowKit Go.Sort
def srt_ren : Go.Shelf.Ren := ⟨fun | 6 => 63 | 15 => 72 | 14 => 71 | 28 => 87 | 29 => 88 | 20 => 79 | 21 => 80 | 22 => 81 | 23 => 82 | 24 => 83 | 25 => 84 | 26 => 85 | 27 => 86 | 46 => 94 | 47 => 95 | 48 => 96 | 49 => 97 | 50 => 98 | 57 => 101 | n => n, fun | 22 => 79 | 24 => 3 | 25 => 97 | 3 => 3 | 39 => 86 | 0 => 0 | 53 => 120 | 55 => 107 | 4 => 4 | 46 => 114 | 45 => 113 | 50 => 67 | 5 => 5 | 9 => 9 | 66 => 126 | 70 => 130 | 76 => 132 | 77 => 133 | n => n, fun | n => n⟩
theorem srt : Go.Proofs.SlLaysF.n6 Tryd.prog srt_ren := {
  mixed := by kernel_rfl
  f6 := ⟨Tryd.f63.name, by kernel_rfl, Tryd.func63.trans (congrArg some (by kernel_rfl))⟩
  f14 := ⟨Tryd.f71.name, by kernel_rfl, Tryd.func71.trans (congrArg some (by kernel_rfl))⟩
  f15 := Tryd.func72.trans (congrArg some (by kernel_rfl))
  f20 := ⟨Tryd.f79.name, by kernel_rfl, Tryd.func79.trans (congrArg some (by kernel_rfl))⟩
  f21 := ⟨Tryd.f80.name, by kernel_rfl, Tryd.func80.trans (congrArg some (by kernel_rfl))⟩
  f22 := ⟨Tryd.f81.name, by kernel_rfl, Tryd.func81.trans (congrArg some (by kernel_rfl))⟩
  f23 := ⟨Tryd.f82.name, by kernel_rfl, Tryd.func82.trans (congrArg some (by kernel_rfl))⟩
  f24 := ⟨Tryd.f83.name, by kernel_rfl, Tryd.func83.trans (congrArg some (by kernel_rfl))⟩
  f25 := ⟨Tryd.f84.name, by kernel_rfl, Tryd.func84.trans (congrArg some (by kernel_rfl))⟩
  f26 := ⟨Tryd.f85.name, by kernel_rfl, Tryd.func85.trans (congrArg some (by kernel_rfl))⟩
  f27 := ⟨Tryd.f86.name, by kernel_rfl, Tryd.func86.trans (congrArg some (by kernel_rfl))⟩
  f28 := Tryd.func87.trans (congrArg some (by kernel_rfl))
  f29 := Tryd.func88.trans (congrArg some (by kernel_rfl))
  f46 := ⟨Tryd.f94.name, by kernel_rfl, Tryd.func94.trans (congrArg some (by kernel_rfl))⟩
  f47 := Tryd.func95.trans (congrArg some (by kernel_rfl))
  f48 := Tryd.func96.trans (congrArg some (by kernel_rfl))
  f49 := ⟨Tryd.f97.name, by kernel_rfl, Tryd.func97.trans (congrArg some (by kernel_rfl))⟩
  f50 := ⟨Tryd.f98.name, by kernel_rfl, Tryd.func98.trans (congrArg some (by kernel_rfl))⟩
  f57 := ⟨Tryd.f101.name, by kernel_rfl, Tryd.func101.trans (congrArg some (by kernel_rfl))⟩
  t0 := Tryd.underlying0
  a0 := Tryd.isAgg0
  z0 := Tryd.sizeOf0
  v0 := Tryd.zeroValue0
  t3 := Tryd.underlying3
  a3 := Tryd.isAgg3
  z3 := Tryd.sizeOf3
  v3 := Tryd.zeroValue3
  t4 := Tryd.underlying4
  a4 := Tryd.isAgg4
  z4 := Tryd.sizeOf4
  v4 := Tryd.zeroValue4
  t5 := Tryd.underlying5
  a5 := Tryd.isAgg5
  z5 := Tryd.sizeOf5
  v5 := Tryd.zeroValue5
  t9 := Tryd.underlying9
  a9 := Tryd.isAgg9
  z9 := Tryd.sizeOf9
  v9 := Tryd.zeroValue9
  t22 := Tryd.underlying79
  a22 := Tryd.isAgg79
  z22 := Tryd.sizeOf79
  v22 := Tryd.zeroValue79
  a24 := Tryd.isAgg3
  z24 := Tryd.sizeOf3
  t25 := Tryd.underlying97
  a25 := Tryd.isAgg97
  z25 := Tryd.sizeOf97
  v25 := Tryd.zeroValue97
  t39 := Tryd.underlying86
  a39 := Tryd.isAgg86
  z39 := Tryd.sizeOf86
  v39 := Tryd.zeroValue86
  t45 := Tryd.underlying113
  a45 := Tryd.isAgg113
  z45 := Tryd.sizeOf113
  v45 := Tryd.zeroValue113
  t46 := Tryd.underlying114
  a46 := Tryd.isAgg114
  z46 := Tryd.sizeOf114
  v46 := Tryd.zeroValue114
  t50 := Tryd.underlying67
  a50 := Tryd.isAgg67
  z50 := Tryd.sizeOf67
  v50 := Tryd.zeroValue67
  t53 := Tryd.underlying120
  a53 := Tryd.isAgg120
  z53 := Tryd.sizeOf120
  v53 := Tryd.zeroValue120
  t55 := Tryd.underlying107
  a55 := Tryd.isAgg107
  z55 := Tryd.sizeOf107
  v55 := Tryd.zeroValue107
  t66 := Tryd.underlying126
  a66 := Tryd.isAgg126
  z66 := Tryd.sizeOf126
  v66 := Tryd.zeroValue126
  t70 := Tryd.underlying130
  a70 := Tryd.isAgg130
  z70 := Tryd.sizeOf130
  v70 := Tryd.zeroValue130
  t76 := Tryd.underlying132
  a76 := Tryd.isAgg132
  z76 := Tryd.sizeOf132
  v76 := Tryd.zeroValue132
  t77 := Tryd.underlying133
  a77 := Tryd.isAgg133
  z77 := Tryd.sizeOf133
  v77 := Tryd.zeroValue133 }

namespace Vm
set_option maxHeartbeats 1000000 in
set_option maxRecDepth 100000 in
theorem cmpstr_any (a b : ByteArray) (w : World) :
    Calls Tryd.prog 73 #[.string a, .string b] w fun e w' => e = .returned (.int .i64 (Lib.compareBytes a.data.toList b.data.toList)) ∧ w' = w := by
  go_enter Tryd.func73, Tryd.ntmps73
  go_wp2
  rw [run_callFunc_extern Tryd.func89 (by kernel_rfl) (by kernel_rfl) (by kernel_rfl) (e := Extern.BytealgCompare.compare) (by kernel_rfl), Lib.run_compareString]
  simp only [Result.andThen]
  rw [Oper.upon_value]
  go_wp2
  go_ret
  exact ⟨rfl, rfl⟩
set_option maxHeartbeats 1000000 in
theorem compare_any (a b : ByteArray) (w : World) :
    Calls Tryd.prog 65 #[.string a, .string b] w fun e w' => e = .returned (.int .i64 (Lib.compareBytes a.data.toList b.data.toList)) ∧ w' = w := by
  go_enter Tryd.func65, Tryd.ntmps65
  go_wp2_with (go_at_call 73; refine (cmpstr_any _ _ _).mono ?_; rintro e w' ⟨rfl, rfl⟩)
  go_ret
  exact ⟨rfl, rfl⟩
theorem cmp_less : ∀ a b : List UInt8, decide (Lib.compareBytes a b < 0) = Op.bytesLess a b
  | [], [] => by simp [Lib.compareBytes, Op.bytesLess]
  | [], _ :: _ => by simp [Lib.compareBytes, Op.bytesLess]
  | _ :: _, [] => by simp [Lib.compareBytes, Op.bytesLess]
  | a :: x, b :: y => by
    rw [Lib.compareBytes, Op.bytesLess]
    by_cases h : a < b
    · simp [h]
    · by_cases h' : b < a
      · have : a ≠ b := fun e => by subst e; exact h h'
        simp [h, h', this]
      · have : a = b := UInt8.le_antisymm (UInt8.not_lt.1 h') (UInt8.not_lt.1 h)
        subst this
        simp [cmp_less x y]
/-- How names at two places compare. -/
def cfN (ns : List ByteArray) (i j : Fin ns.length) : Int := Lib.compareBytes ns[i].data.toList ns[j].data.toList
theorem ltOf_cfN (ns : List ByteArray) (i j : Fin ns.length) : ltOf (cfN ns) i j = lt ns[i] ns[j] := by
  unfold ltOf cfN lt
  rw [cmp_less, ByteArray.toList_eq, ByteArray.toList_eq]
theorem swo_cfN (ns : List ByteArray) : SWO (ltOf (cfN ns)) where
  irrefl x := by rw [ltOf_cfN]; exact lt_irrefl _
  trans x y z h1 h2 := by rw [ltOf_cfN] at *; exact lt_trans h1 h2
  ntrans x y z h1 h2 := by
    rw [ltOf_cfN] at *
    cases h : lt ns[x] ns[z]
    · rfl
    · cases h3 : lt ns[y] ns[x]
      · have := lt_tri h1 h3
        rw [this, h2] at h; cases h
      · rw [lt_trans h3 h] at h2; cases h2

theorem sortWorld_old {α : Type} [Inhabited α] (enc : α → Value) (w : World) (blk off m : Nat) (dk : Array α) (os : Array Obj) {k : Nat} (h : k < w.heap.size) (hk : k ≠ blk) : (sortWorld enc w blk off m dk os).heap[k]? = w.heap[k]? := by
  unfold sortWorld
  rw [heap_grow_old _ _ (by simp [putRow, mapBlock, Sort.ahead]; exact h)]
  simp [putRow, mapBlock, Sort.ahead, Array.getElem?_modify, Ne.symm hk]
theorem sortWorld_size {α : Type} [Inhabited α] (enc : α → Value) (w : World) (blk off m : Nat) (dk : Array α) (os : Array Obj) : w.heap.size ≤ (sortWorld enc w blk off m dk os).heap.size := by
  unfold sortWorld grow
  simp [putRow, mapBlock, Sort.ahead]
theorem sortWorld_below {α : Type} [Inhabited α] (enc : α → Value) (w : World) (blk off m : Nat) (dk : Array α) (os : Array Obj) {B : Nat} (h : B ≤ blk) (hB : B ≤ w.heap.size) : Go.RowKit.Below B w (sortWorld enc w blk off m dk os) :=
  ⟨rfl, rfl, rfl, sortWorld_size enc w blk off m dk os, fun k hk => sortWorld_old enc w blk off m dk os (by omega) (by omega)⟩
/-- The values of places. -/
def encF {n : Nat} (i : Fin n) : Value := .int .i64 (i.val : Int)

set_option maxHeartbeats 2000000 in
set_option maxRecDepth 100000 in
theorem rise_cmp (w : World) (ns : List ByteArray) (P : Nat → Prop) (A : Option Addr) (c H : Nat) (hN : NV w P ns A c) (hb : RowB w H 22 #[.slice A ns.length c]) (i j : Fin ns.length) :
    Calls Tryd.prog 64 (#[.int .i64 (i.val : Int), .int .i64 (j.val : Int)] ++ #[.pointer (some ⟨H, 0, none⟩)]) w fun e w' => e = .returned (.int .i64 (cfN ns i j)) ∧ ∃ q, w' = w.drewN q := by
  obtain ⟨a, ha⟩ : ∃ a, a = ns[i] := ⟨_, rfl⟩
  obtain ⟨b, hbb⟩ : ∃ b, b = ns[j] := ⟨_, rfl⟩
  have e1 : ns[i.val]? = some a := by rw [ha]; exact List.getElem?_eq_getElem i.2
  have e2 : ns[j.val]? = some b := by rw [hbb]; exact List.getElem?_eq_getElem j.2
  obtain ⟨g, o, hA, _, hg, z0, _⟩ := hN.nth e1
  obtain ⟨g', o', hA', _, hg', z1, _⟩ := hN.nth e2
  rw [hA] at hA'
  injection hA' with hA'
  injection hA' with h1 h2
  subst h1 h2
  have HC : Hid (cfN ns i j = Lib.compareBytes a.data.toList b.data.toList) := by unfold Hid cfN; rw [ha, hbb]
  have C : ∀ k, Calls Tryd.prog 65 #[.string a, .string b] (w.drewN k) fun e w' => e = .returned (.int .i64 (Lib.compareBytes a.data.toList b.data.toList)) ∧ w' = w.drewN k := fun k => compare_any a b _
  have r1 := hb.cell
  have l1 : ((i.val : Nat) : Int) < (ns.length : Int) := by have := i.2; omega
  have l2 : ((j.val : Nat) : Int) < (ns.length : Int) := by have := j.2; omega
  rw [HC.out]
  clear hN e1 e2 ha hbb HC
  generalize Lib.compareBytes a.data.toList b.data.toList = r at *
  generalize i.val = x at *
  generalize j.val = y at *
  generalize ns.length = n at *
  subst hA
  have CH := Lib.hid C
  clear hb C
  go_enter Tryd.func64, Tryd.ntmps64
  go_wp2_with fail
  go_quiet (first
    | (go_at_call 65; exact Calls.quiet_of_same (CH.out _)))
  go_wp2_with fail
  (first | go_ret | go_ret2)
  exact ⟨rfl, _, rfl⟩
theorem info3 : (Tryd.prog.info? 3).map (fun i => (i.zero, i.size, i.bytes)) = some (some (.int .i64 0), 1, 8) := by kernel_rfl
/-- Places of names, in the names' order. -/
structure Ris (ns : List ByteArray) (pl : List Nat) : Prop where
  len : pl.length = ns.length
  mem : ∀ i, i ∈ pl ↔ i < ns.length
  nodup : pl.Nodup
  ord : ∀ (i j : Nat) (a b : ByteArray), i < j → (∃ p, pl[i]? = some p ∧ ns[p]? = some a) → (∃ p, pl[j]? = some p ∧ ns[p]? = some b) → lt b a = false
/-- What rising answers. -/
def RiseQ (ns : List ByteArray) (w : World) (e : Ending) (w' : World) : Prop :=
  ∃ (g : Nat) (pl : List Nat), e = .returned (.slice (some ⟨g, 0, none⟩) ns.length ns.length) ∧ Ris ns pl ∧ w.heap.size ≤ g ∧ g < w'.heap.size ∧ (∀ (i p : Nat), pl[i]? = some p → w'.cell? ⟨g, i, none⟩ = some (.int .i64 (p : Int))) ∧ Go.RowKit.Below w.heap.size w w'
theorem perm_ris {ns : List ByteArray} [Inhabited (Fin ns.length)] {d d' : Array (Fin ns.length)} (hd : d = (List.finRange ns.length).toArray) (hp : PermIn 0 d.size d d') (hs : SortedIn (ltOf (cfN ns)) 0 d.size d') : Ris ns (d'.toList.map (·.val)) := by
  obtain ⟨h1, _, h3⟩ := hp
  have hsz : d.size = ns.length := by rw [hd]; simp
  have e1 : d.extract 0 d.size = d := by simp
  have e2 : d'.extract 0 d.size = d' := by rw [← h1]; exact Array.extract_size
  rw [e1, e2] at h3
  have hl : d.toList = List.finRange ns.length := by rw [hd]
  rw [hl] at h3
  have hp2 : (d'.toList.map (·.val)).Perm ((List.finRange ns.length).map (·.val)) := h3.map _
  have hfr : (List.finRange ns.length).map (·.val) = List.range ns.length := by
    refine List.ext_getElem (by simp) fun i h1 h2 => ?_
    rw [List.getElem_map, List.getElem_finRange, List.getElem_range]
    rfl
  rw [hfr] at hp2
  refine ⟨by simpa using hp2.length_eq, fun i => by rw [hp2.mem_iff]; simp, hp2.nodup_iff.2 List.nodup_range, ?_⟩
  rintro i j a b hij ⟨p, hp, hpa⟩ ⟨q, hq, hqb⟩
  have hi : i < d'.size ∧ j < d'.size := by
    have := (List.getElem?_eq_some_iff.1 hp).1
    have := (List.getElem?_eq_some_iff.1 hq).1
    simp at *; omega
  have := hs i j (Nat.zero_le _) hij (by rw [← h1]; exact hi.2)
  rw [ltOf_cfN, getElem!_pos d' j hi.2, getElem!_pos d' i hi.1] at this
  have ep : d'[i].val = p := by
    have : (d'.toList.map (·.val))[i]? = some d'[i].val := by simp [hi.1]
    rw [this] at hp; injection hp
  have eq : d'[j].val = q := by
    have : (d'.toList.map (·.val))[j]? = some d'[j].val := by simp [hi.2]
    rw [this] at hq; injection hq
  have ea : ns[d'[i]] = a := by
    have h5 : ns[d'[i].val]? = some a := by rw [ep]; exact hpa
    rw [List.getElem?_eq_getElem (l := ns) d'[i].2] at h5
    injection h5
  have eb : ns[d'[j]] = b := by
    have h5 : ns[d'[j].val]? = some b := by rw [eq]; exact hqb
    rw [List.getElem?_eq_getElem (l := ns) d'[j].2] at h5
    injection h5
  rw [ea, eb] at this
  exact this

end Vm
end Go.Proofs.YtbjlhdjcdinmhaaDoor
