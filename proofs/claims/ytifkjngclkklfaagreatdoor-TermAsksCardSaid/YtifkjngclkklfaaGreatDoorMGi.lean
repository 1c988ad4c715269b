/- Contracts: names found in order. -/
import Derived.Test.YtifkjngclkklfaaGreatDoorMGh
import Derived.Lib.Walk
import Derived.Deep.Draws
import Derived.Shelf.SlSortCmp.Whole1
import Derived.Lib.Strings
import Derived.Lib.Slices
import Derived.Lib.Bytealg
import Derived.BigQuiet
import Derived.Deep.LoopGhost
import Derived.Laws.MakeOwn
import Derived.OwnWalk
import Derived.Shelf.SlSortCmp.NoneTotal
namespace Go.Proofs.YtifkjngclkklfaaGreatDoor
open Go.RowKit Go.Op
namespace Tm
set_option maxHeartbeats 1000000 in
theorem isnan1 (x : ByteArray) (w : World) : Calls Tryz.prog 85 #[.string x] w fun e w' => e = .returned (.bool false) ∧ w' = w := by
  go_enter Tryz.func85, Tryz.ntmps85
  go_wp2
  go_ret
  exact ⟨by simp, rfl⟩
set_option maxHeartbeats 1000000 in
theorem isnan2 (x : ByteArray) (w : World) : Calls Tryz.prog 66 #[.string x] w fun e w' => e = .returned (.bool false) ∧ w' = w := by
  go_enter Tryz.func66, Tryz.ntmps66
  go_wp2
  go_ret
  exact ⟨by simp, rfl⟩
set_option maxHeartbeats 1000000 in
theorem less_any (x y : ByteArray) (w : World) : Calls Tryz.prog 65 #[.string x, .string y] w fun e w' => e = .returned (.bool (lt x y)) ∧ w' = w := by
  go_enter Tryz.func65, Tryz.ntmps65
  go_wp2_with (go_at_call 85; refine (isnan1 _ _).mono ?_; rintro e w' ⟨rfl, rfl⟩)
  go_ret
  exact ⟨rfl, rfl⟩
/-- Where a name would stand. -/
structure Sch (ns : List ByteArray) (x : ByteArray) (i j : Nat) : Prop where
  lo : ∀ k (h : k < ns.length), k < i → lt ns[k] x = true
  hi : ∀ k (h : k < ns.length), j ≤ k → lt ns[k] x = false
theorem Sch.up {ns : List ByteArray} {x s : ByteArray} {i j h : Nat} (S : Sch ns x i j) (hr : riseB ns = true) (e : ns[h]? = some s) (k : lt s x = true) : Sch ns x (h + 1) j := by
  obtain ⟨hh, rfl⟩ := List.getElem?_eq_some_iff.1 e
  refine ⟨fun a ha hl => ?_, S.hi⟩
  rcases Nat.lt_or_ge a h with hah | hah
  · exact lt_trans (rise_get hr hah hh) k
  · obtain rfl : a = h := by omega
    exact k
theorem Sch.down {ns : List ByteArray} {x s : ByteArray} {i j h : Nat} (S : Sch ns x i j) (hr : riseB ns = true) (e : ns[h]? = some s) (k : lt s x = false) : Sch ns x i h := by
  obtain ⟨hh, rfl⟩ := List.getElem?_eq_some_iff.1 e
  refine ⟨S.lo, fun a ha hl => ?_⟩
  rcases Nat.lt_or_ge h a with hah | hah
  · cases c : lt ns[a] x
    · rfl
    · rw [lt_trans (rise_get hr hah ha) c] at k; cases k
  · obtain rfl : a = h := by omega
    exact k
theorem Sch.mem {ns : List ByteArray} {x : ByteArray} {i : Nat} (S : Sch ns x i i) (hr : riseB ns = true) (h : x ∈ ns) : ns[i]? = some x := by
  obtain ⟨p, hp, rfl⟩ := List.getElem_of_mem h
  have h1 : i ≤ p := by
    rcases Nat.lt_or_ge p i with hpi | hpi
    · have := S.lo p hp hpi; rw [lt_irrefl] at this; cases this
    · exact hpi
  rcases Nat.eq_or_lt_of_le h1 with e | e
  · subst e; exact List.getElem?_eq_getElem hp
  · have := S.hi i (by omega) (Nat.le_refl _)
    rw [rise_get hr e hp] at this
    cases this
theorem Sch.start (ns : List ByteArray) (x : ByteArray) : Sch ns x 0 ns.length := ⟨fun k h hk => by omega, fun k h hk => by omega⟩

/-- What BinarySearch answers. -/
def SearchQ (ns : List ByteArray) (x : ByteArray) (w : World) (e : Ending) (w' : World) : Prop :=
  ∃ (i : Nat) (b : Bool), e = .returned (.tuple #[.int .i64 i, .bool b]) ∧ (b = true ↔ x ∈ ns) ∧ (x ∈ ns → ns[i]? = some x) ∧ Below w.heap.size w w'
set_option maxHeartbeats 4000000 in
set_option maxRecDepth 100000 in
theorem search_any (w : World) (ns : List ByteArray) (x : ByteArray) (P : Nat → Prop) (A : Option Addr) (c : Nat) (h : NV w P ns A c) (hl : ns.length ≤ 1000001) (hr : riseB ns = true) :
    Calls Tryz.prog 45 #[.slice A ns.length c, .string x] w (SearchQ ns x w) := by
  have HK := Lib.hid h
  obtain ⟨n, hn⟩ : ∃ n, n = ns.length := ⟨_, rfl⟩
  have HN := Lib.hid hn
  have HR := Lib.hid hr
  have hn1 : n ≤ 1000001 := by omega
  rw [← hn]
  clear h hn hl hr
  go_enter Tryz.func45, Tryz.ntmps45
  go_wp2_with fail
  go_loopg [7, 8] (n + 1) (fun kx s7 s8 wr => ∃ (i j : Nat), s7 = .int .i64 i ∧ s8 = .int .i64 j ∧ i ≤ j ∧ j ≤ n ∧ j - i ≤ kx ∧ Hid (Sch ns x i j) ∧ Hid (w = wr))
  case atStart => exact ⟨0, n, rfl, rfl, by omega, by omega, by omega, by rw [HN.out]; exact Sch.start ns x, rfl⟩
  case round =>
    obtain ⟨i, j, rfl, rfl, hij, hjn, hkx, HS, HW⟩ := hrel
    obtain rfl := HW.out
    by_cases hlt : i < j
    · have hltz : (i : Int) < (j : Int) := by omega
      obtain ⟨s, e⟩ := get_lt (l := ns) (i := (i + j) / 2) (by rw [← HN.out]; omega)
      obtain ⟨g, o, hA, _, hg, z0, _⟩ := HK.out.nth e
      have C := Lib.hid (less_any s x w)
      have HE := Lib.hid e
      clear e
      cases hq : lt s x
      · have HS2 := Lib.hid (HS.out.down HR.out HE.out hq)
        rw [hq] at C
        subst hA
        clear hq
        go_wp2_with fail
        refine C.out.mono ?_
        rintro e w1 ⟨rfl, rfl⟩
        clear C z0
        go_wp2_with fail
        go_roundg ((i + j) / 2 - i)
        case measure => omega
        case rel => exact ⟨i, (i + j) / 2, rfl, by first | rfl | rw [show ((i : Int) + (j : Int)) / 2 = (((i + j) / 2 : Nat) : Int) by omega], by omega, by omega, by omega, HS2.out, rfl⟩
      · have HS2 := Lib.hid (HS.out.up HR.out HE.out hq)
        rw [hq] at C
        subst hA
        clear hq
        go_wp2_with fail
        refine C.out.mono ?_
        rintro e w1 ⟨rfl, rfl⟩
        clear C z0
        go_wp2_with fail
        go_roundg (j - ((i + j) / 2 + 1))
        case measure => omega
        case rel => exact ⟨(i + j) / 2 + 1, j, by rw [show ((i : Int) + (j : Int)) / 2 + 1 = (((i + j) / 2 + 1 : Nat) : Int) by omega], rfl, by omega, by omega, by omega, HS2.out, rfl⟩
    · have hltz : ¬ (i : Int) < (j : Int) := by omega
      obtain rfl : i = j := by omega
      by_cases hin : i < n
      · have hinz : (i : Int) < (n : Int) := by omega
        obtain ⟨s, e⟩ := get_lt (l := ns) (i := i) (by rw [← HN.out]; omega)
        obtain ⟨g, o, hA, _, hg, z0, _⟩ := HK.out.nth e
        have C1 := Lib.hid (isnan2 s w)
        have HE := Lib.hid e
        clear e
        subst hA
        by_cases hs : s = x
        · have q : (s.toList == x.toList) = true := by rw [beq_ba]; exact decide_eq_true hs
          have HM : Hid (x ∈ ns) := by rw [← hs]; exact List.mem_of_getElem? HE.out
          have HE2 : Hid (ns[i]? = some x) := by rw [← hs]; exact HE.out
          clear hs
          go_wp2_with fail
          go_ret2
          exact ⟨i, true, rfl, ⟨fun _ => HM.out, fun _ => rfl⟩, fun _ => HE2.out, Below.refl _ _⟩
        · have q : (s.toList == x.toList) = false := by rw [beq_ba]; exact decide_eq_false hs
          have HM : Hid (x ∉ ns) := fun hm => by
            have := HS.out.mem HR.out hm
            rw [HE.out] at this
            injection this with this
            exact hs this
          clear hs
          go_wp2_with fail
          refine C1.out.mono ?_
          rintro e w1 ⟨rfl, rfl⟩
          clear C1
          go_wp2_with fail
          go_ret2
          exact ⟨i, false, rfl, ⟨fun h => (by cases h), fun h => absurd h HM.out⟩, fun h => absurd h HM.out, Below.refl _ _⟩
      · have hinz : ¬ (i : Int) < (n : Int) := by omega
        have HM : Hid (x ∉ ns) := fun hm => by
          have := HS.out.mem HR.out hm
          rw [List.getElem?_eq_none (by rw [← HN.out]; omega)] at this
          cases this
        go_wp2_with fail
        go_ret2
        exact ⟨i, false, rfl, ⟨fun h => (by cases h), fun h => absurd h HM.out⟩, fun h => absurd h HM.out, Below.refl _ _⟩
end Tm
end Go.Proofs.YtifkjngclkklfaaGreatDoor
/- Contracts: the part of a name: the program, the document. -/
namespace Go.Proofs.YtifkjngclkklfaaGreatDoor
open Go.RowKit Go.Op
namespace Tm
abbrev tz : Value := .agg #[.int .i64 0, .slice none 0 0, .slice none 0 0]
abbrev tzc : Array Value := #[.int .i64 0, .slice none 0 0, .slice none 0 0]
theorem below_put3 {B : Nat} {a w : World} (h : Below B a w) {g : Nat} (hg : B ≤ g) (u0 u1 u2 : Value) : Below B a (((w.setCell ⟨g, 0, none⟩ u0).setCell ⟨g, 1, none⟩ u1).setCell ⟨g, 2, none⟩ u2) :=
  ((h.setCell (p := ⟨g, 0, none⟩) hg u0).setCell (p := ⟨g, 1, none⟩) hg u1).setCell (p := ⟨g, 2, none⟩) hg u2
/-- What Field answers. -/
def FieldQ (P : Nat → Prop) (o : Option Ty) (w : World) (e : Ending) (w' : World) : Prop :=
  Below w.heap.size w w' ∧ match o with
    | some p => ∃ An cn A c, e = .returned (.tuple #[tv p An cn A c, .bool true]) ∧ TI w' P p An cn A c
    | none => e = .returned (.tuple #[tz, .bool false])
theorem field_none {t : Ty} {x : ByteArray} (h : x ∉ t.names) : t.field x = none := by
  unfold Ty.field
  split
  · exact lk_none h
  · rfl

set_option maxHeartbeats 4000000 in
set_option maxRecDepth 100000 in
theorem pfield_any (w : World) (k : Int) (ns : List ByteArray) (ps : List Ty) (x : ByteArray) (P : Nat → Prop) (An : Option Addr) (cn : Nat) (A : Option Addr) (c : Nat) (hN : NV w P ns An cn) (h : TV w P ps A c) (hl : ns.length ≤ 1000001) (hr : (Ty.mk k ns ps).right = true) :
    Calls Tryz.prog 22 #[.agg #[.int .i64 k, .slice An ns.length cn, .slice A ps.length c], .string x] w (FieldQ P ((Ty.mk k ns ps).field x) w) := by
  have hn : riseB ns = true := by
    rcases right_cases hr with ⟨_, rfl, _⟩ | ⟨_, _, _, h⟩ | ⟨_, rfl, _⟩
    · rfl
    · exact h
    · rfl
  have b1 : Below w.heap.size w (w.alloc (.cells (tarr k An ns.length cn A ps.length c) 25)) := bel1 w _
  have b2 : Below (w.alloc (.cells (tarr k An ns.length cn A ps.length c) 25)).heap.size (w.alloc (.cells (tarr k An ns.length cn A ps.length c) 25)) _ := bel1 _ (.cells tzc 25)
  have HB0 := Lib.hid (b1.trans (b2.mono b1.size))
  have R1 := Lib.hid ((RowB.new w 25 (tarr k An ns.length cn A ps.length c)).alloc (.cells tzc 25))
  have R2 : Hid (RowB ((w.alloc (.cells (tarr k An ns.length cn A ps.length c) 25)).alloc (.cells tzc 25)) (w.heap.size + 1) 25 tzc) := by
    have := RowB.new (w.alloc (.cells (tarr k An ns.length cn A ps.length c) 25)) 25 tzc
    unfold Hid
    simpa using this
  have C := Lib.hid (search_any _ ns x P An cn ((hN.below b1).below b2) hl hn)
  have HK := Lib.hid h
  have HR := Lib.hid hr
  obtain ⟨o, ho⟩ : ∃ o, o = (Ty.mk k ns ps).field x := ⟨_, rfl⟩
  rw [← ho]
  have HO := Lib.hid ho
  have HN := Lib.hid hn
  have rc := R1.out.cell
  clear b1 b2 hN h hr hn ho
  go_enter Tryz.func22, Tryz.ntmps22
  go_wp2_with fail
  refine C.out.mono ?_
  rintro e w1 ⟨i, b, rfl, hb, hi, h1⟩
  have HB1 := Lib.hid (HB0.out.trans (h1.mono HB0.out.size))
  have X1 := Lib.hid (R1.out.below h1 R1.out.lt)
  have X2 := Lib.hid (R2.out.below h1 R2.out.lt)
  have r1 := X1.out.cell
  have r2 := X2.out.cell
  have r2t := X2.out.thaw
  have Hb := Lib.hid hb
  have Hi := Lib.hid hi
  clear h1 C rc hb hi R1 R2
  cases b
  · have HF : Hid (o = none) := by
      unfold Hid
      rw [HO.out]
      exact field_none fun h => by have := Hb.out.2 h; cases this
    clear Hb Hi HO
    go_wp2_with fail
    refine bodyPost_ret (v := .tuple #[tz, .bool false]) ?_ rfl ⟨below_put3 HB1.out (by omega) _ _ _, by rw [HF.out]⟩
    simp [results, Tryz.results22, go_sem, r2]
    try first | rfl | exact ⟨rfl, rfl⟩
  · have hm : x ∈ ns := Hb.out.1 rfl
    obtain ⟨hil, he⟩ := List.getElem?_eq_some_iff.1 (Hi.out hm)
    have hk : k = 3 ∧ ns.length = ps.length := by
      rcases right_cases HR.out with ⟨_, rfl, _⟩ | ⟨h3, hl, _⟩ | ⟨_, rfl, _⟩
      · cases hm
      · exact ⟨h3, hl⟩
      · cases hm
    obtain ⟨rfl, hlen⟩ := hk
    have HF0 : o = some (ps[i]'(by omega)) := by
      rw [HO.out]
      unfold Ty.field
      rw [if_pos (by rfl), names_mk, parts_mk, ← he]
      exact lk_at (rise_nodup HN.out) hil (by omega)
    obtain ⟨t, ht⟩ : ∃ t, t = ps[i]'(by omega) := ⟨_, rfl⟩
    have e : ps[i]? = some t := by rw [ht]; exact List.getElem?_eq_getElem _
    rw [← ht] at HF0
    have HF := Lib.hid HF0
    obtain ⟨g, o', An2, cn2, A2, c2, hA, hP, hg, hti, y0, y1, y2⟩ := HK.out.nth e
    have z0 := (HB1.out.cell (p := ⟨g, o' + i * 3, none⟩) hg).trans y0
    have z1 := (HB1.out.cell (p := ⟨g, o' + i * 3 + 1, none⟩) hg).trans y1
    have z2 := (HB1.out.cell (p := ⟨g, o' + i * 3 + 2, none⟩) hg).trans y2
    have hiz : (i : Int) < (ps.length : Int) := by omega
    have hin : ¬ (i : Int) ≥ (ps.length : Int) := by omega
    have HTI := Lib.hid hti
    subst hA
    obtain ⟨kt, nt, pt⟩ := t
    simp only [kind_mk, names_mk, parts_mk] at z0 z1 z2
    clear Hb Hi HF0 HO hm he hlen ht e hti y0 y1 y2 hil hP
    go_wp2_with fail
    refine bodyPost_ret (v := .tuple #[.agg #[.int .i64 kt, .slice An2 nt.length cn2, .slice A2 pt.length c2], .bool true]) ?_ rfl ⟨below_put3 HB1.out (by omega) _ _ _, by rw [HF.out]; exact ⟨An2, cn2, A2, c2, rfl, HTI.out.keep (by simp [World.setCell]; exact HB1.out.size) (fun g hg hl => ⟨(below_put3 HB1.out (by omega) _ _ _).block g hl, hg⟩)⟩⟩
    simp [results, Tryz.results22, go_sem, r2]
    try first | rfl | exact ⟨rfl, rfl⟩
end Tm
end Go.Proofs.YtifkjngclkklfaaGreatDoor
/- The library's sort, laid; names held against each other; places sorted by names. -/
namespace Go.Proofs.YtifkjngclkklfaaGreatDoor
open Go.RowKit Go.Sort
def srt_ren : Go.Shelf.Ren := ⟨fun | 6 => 71 | 15 => 88 | 14 => 87 | 28 => 114 | 29 => 115 | 20 => 106 | 21 => 107 | 22 => 108 | 23 => 109 | 24 => 110 | 25 => 111 | 26 => 112 | 27 => 113 | 46 => 127 | 47 => 128 | 48 => 129 | 49 => 130 | 50 => 131 | 57 => 140 | n => n, fun | 22 => 65 | 24 => 3 | 25 => 92 | 3 => 3 | 39 => 80 | 0 => 0 | 53 => 131 | 55 => 133 | 4 => 4 | 46 => 125 | 45 => 124 | 50 => 55 | 5 => 5 | 9 => 9 | 66 => 141 | 70 => 145 | 76 => 149 | 77 => 150 | n => n, fun | n => n⟩
theorem srt : Go.Proofs.SlLaysF.n6 Tryz.prog srt_ren := {
  mixed := by kernel_rfl
  f6 := ⟨Tryz.f71.name, by kernel_rfl, Tryz.func71.trans (congrArg some (by kernel_rfl))⟩
  f14 := ⟨Tryz.f87.name, by kernel_rfl, Tryz.func87.trans (congrArg some (by kernel_rfl))⟩
  f15 := Tryz.func88.trans (congrArg some (by kernel_rfl))
  f20 := ⟨Tryz.f106.name, by kernel_rfl, Tryz.func106.trans (congrArg some (by kernel_rfl))⟩
  f21 := ⟨Tryz.f107.name, by kernel_rfl, Tryz.func107.trans (congrArg some (by kernel_rfl))⟩
  f22 := ⟨Tryz.f108.name, by kernel_rfl, Tryz.func108.trans (congrArg some (by kernel_rfl))⟩
  f23 := ⟨Tryz.f109.name, by kernel_rfl, Tryz.func109.trans (congrArg some (by kernel_rfl))⟩
  f24 := ⟨Tryz.f110.name, by kernel_rfl, Tryz.func110.trans (congrArg some (by kernel_rfl))⟩
  f25 := ⟨Tryz.f111.name, by kernel_rfl, Tryz.func111.trans (congrArg some (by kernel_rfl))⟩
  f26 := ⟨Tryz.f112.name, by kernel_rfl, Tryz.func112.trans (congrArg some (by kernel_rfl))⟩
  f27 := ⟨Tryz.f113.name, by kernel_rfl, Tryz.func113.trans (congrArg some (by kernel_rfl))⟩
  f28 := Tryz.func114.trans (congrArg some (by kernel_rfl))
  f29 := Tryz.func115.trans (congrArg some (by kernel_rfl))
  f46 := ⟨Tryz.f127.name, by kernel_rfl, Tryz.func127.trans (congrArg some (by kernel_rfl))⟩
  f47 := Tryz.func128.trans (congrArg some (by kernel_rfl))
  f48 := Tryz.func129.trans (congrArg some (by kernel_rfl))
  f49 := ⟨Tryz.f130.name, by kernel_rfl, Tryz.func130.trans (congrArg some (by kernel_rfl))⟩
  f50 := ⟨Tryz.f131.name, by kernel_rfl, Tryz.func131.trans (congrArg some (by kernel_rfl))⟩
  f57 := ⟨Tryz.f140.name, by kernel_rfl, Tryz.func140.trans (congrArg some (by kernel_rfl))⟩
  t0 := Tryz.underlying0
  a0 := Tryz.isAgg0
  z0 := Tryz.sizeOf0
  v0 := Tryz.zeroValue0
  t3 := Tryz.underlying3
  a3 := Tryz.isAgg3
  z3 := Tryz.sizeOf3
  v3 := Tryz.zeroValue3
  t4 := Tryz.underlying4
  a4 := Tryz.isAgg4
  z4 := Tryz.sizeOf4
  v4 := Tryz.zeroValue4
  t5 := Tryz.underlying5
  a5 := Tryz.isAgg5
  z5 := Tryz.sizeOf5
  v5 := Tryz.zeroValue5
  t9 := Tryz.underlying9
  a9 := Tryz.isAgg9
  z9 := Tryz.sizeOf9
  v9 := Tryz.zeroValue9
  t22 := Tryz.underlying65
  a22 := Tryz.isAgg65
  z22 := Tryz.sizeOf65
  v22 := Tryz.zeroValue65
  a24 := Tryz.isAgg3
  z24 := Tryz.sizeOf3
  t25 := Tryz.underlying92
  a25 := Tryz.isAgg92
  z25 := Tryz.sizeOf92
  v25 := Tryz.zeroValue92
  t39 := Tryz.underlying80
  a39 := Tryz.isAgg80
  z39 := Tryz.sizeOf80
  v39 := Tryz.zeroValue80
  t45 := Tryz.underlying124
  a45 := Tryz.isAgg124
  z45 := Tryz.sizeOf124
  v45 := Tryz.zeroValue124
  t46 := Tryz.underlying125
  a46 := Tryz.isAgg125
  z46 := Tryz.sizeOf125
  v46 := Tryz.zeroValue125
  t50 := Tryz.underlying55
  a50 := Tryz.isAgg55
  z50 := Tryz.sizeOf55
  v50 := Tryz.zeroValue55
  t53 := Tryz.underlying131
  a53 := Tryz.isAgg131
  z53 := Tryz.sizeOf131
  v53 := Tryz.zeroValue131
  t55 := Tryz.underlying133
  a55 := Tryz.isAgg133
  z55 := Tryz.sizeOf133
  v55 := Tryz.zeroValue133
  t66 := Tryz.underlying141
  a66 := Tryz.isAgg141
  z66 := Tryz.sizeOf141
  v66 := Tryz.zeroValue141
  t70 := Tryz.underlying145
  a70 := Tryz.isAgg145
  z70 := Tryz.sizeOf145
  v70 := Tryz.zeroValue145
  t76 := Tryz.underlying149
  a76 := Tryz.isAgg149
  z76 := Tryz.sizeOf149
  v76 := Tryz.zeroValue149
  t77 := Tryz.underlying150
  a77 := Tryz.isAgg150
  z77 := Tryz.sizeOf150
  v77 := Tryz.zeroValue150 }

namespace Tm
set_option maxHeartbeats 1000000 in
set_option maxRecDepth 100000 in
theorem cmpstr_any (a b : ByteArray) (w : World) :
    Calls Tryz.prog 89 #[.string a, .string b] w fun e w' => e = .returned (.int .i64 (Lib.compareBytes a.data.toList b.data.toList)) ∧ w' = w := by
  go_enter Tryz.func89, Tryz.ntmps89
  go_wp2
  rw [run_callFunc_extern Tryz.func116 (by kernel_rfl) (by kernel_rfl) (by kernel_rfl) (e := Extern.BytealgCompare.compare) (by kernel_rfl), Lib.run_compareString]
  simp only [Result.andThen]
  rw [Oper.upon_value]
  go_wp2
  go_ret
  exact ⟨rfl, rfl⟩
set_option maxHeartbeats 1000000 in
theorem compare_any (a b : ByteArray) (w : World) :
    Calls Tryz.prog 73 #[.string a, .string b] w fun e w' => e = .returned (.int .i64 (Lib.compareBytes a.data.toList b.data.toList)) ∧ w' = w := by
  go_enter Tryz.func73, Tryz.ntmps73
  go_wp2_with (go_at_call 89; refine (cmpstr_any _ _ _).mono ?_; rintro e w' ⟨rfl, rfl⟩)
  go_ret
  exact ⟨rfl, rfl⟩
theorem cmp_less : ∀ a b : List UInt8, decide (Lib.compareBytes a b < 0) = Op.bytesLess a b
  | [], [] => by simp [Lib.compareBytes, Op.bytesLess]
  | [], _ :: _ => by simp [Lib.compareBytes, Op.bytesLess]
  | _ :: _, [] => by simp [Lib.compareBytes, Op.bytesLess]
  | a :: x, b :: y => by
    rw [Lib.compareBytes, Op.bytesLess]
    by_cases h : a < b
    · simp [h]
    · by_cases h' : b < a
      · have : a ≠ b := fun e => by subst e; exact h h'
        simp [h, h', this]
      · have : a = b := UInt8.le_antisymm (UInt8.not_lt.1 h') (UInt8.not_lt.1 h)
        subst this
        simp [cmp_less x y]
/-- How names at two places compare. -/
def cfN (ns : List ByteArray) (i j : Fin ns.length) : Int := Lib.compareBytes ns[i].data.toList ns[j].data.toList
theorem ltOf_cfN (ns : List ByteArray) (i j : Fin ns.length) : ltOf (cfN ns) i j = lt ns[i] ns[j] := by
  unfold ltOf cfN lt
  rw [cmp_less, ByteArray.toList_eq, ByteArray.toList_eq]
theorem swo_cfN (ns : List ByteArray) : SWO (ltOf (cfN ns)) where
  irrefl x := by rw [ltOf_cfN]; exact lt_irrefl _
  trans x y z h1 h2 := by rw [ltOf_cfN] at *; exact lt_trans h1 h2
  ntrans x y z h1 h2 := by
    rw [ltOf_cfN] at *
    cases h : lt ns[x] ns[z]
    · rfl
    · cases h3 : lt ns[y] ns[x]
      · have := lt_tri h1 h3
        rw [this, h2] at h; cases h
      · rw [lt_trans h3 h] at h2; cases h2
end Tm
end Go.Proofs.YtifkjngclkklfaaGreatDoor
/- Contracts: places in the order of their names. -/
namespace Go.Proofs.YtifkjngclkklfaaGreatDoor
open Go.RowKit Go.Sort
namespace Tm
theorem sortWorld_old {α : Type} [Inhabited α] (enc : α → Value) (w : World) (blk off m : Nat) (dk : Array α) (os : Array Obj) {k : Nat} (h : k < w.heap.size) (hk : k ≠ blk) : (sortWorld enc w blk off m dk os).heap[k]? = w.heap[k]? := by
  unfold sortWorld
  rw [heap_grow_old _ _ (by simp [putRow, mapBlock, Sort.ahead]; exact h)]
  simp [putRow, mapBlock, Sort.ahead, Array.getElem?_modify, Ne.symm hk]
theorem sortWorld_size {α : Type} [Inhabited α] (enc : α → Value) (w : World) (blk off m : Nat) (dk : Array α) (os : Array Obj) : w.heap.size ≤ (sortWorld enc w blk off m dk os).heap.size := by
  unfold sortWorld grow
  simp [putRow, mapBlock, Sort.ahead]
theorem sortWorld_below {α : Type} [Inhabited α] (enc : α → Value) (w : World) (blk off m : Nat) (dk : Array α) (os : Array Obj) {B : Nat} (h : B ≤ blk) (hB : B ≤ w.heap.size) : Go.RowKit.Below B w (sortWorld enc w blk off m dk os) :=
  ⟨rfl, rfl, rfl, sortWorld_size enc w blk off m dk os, fun k hk => sortWorld_old enc w blk off m dk os (by omega) (by omega)⟩
/-- The values of places. -/
def encF {n : Nat} (i : Fin n) : Value := .int .i64 (i.val : Int)

set_option maxHeartbeats 2000000 in
set_option maxRecDepth 100000 in
theorem rise_cmp (w : World) (ns : List ByteArray) (P : Nat → Prop) (A : Option Addr) (c H : Nat) (hN : NV w P ns A c) (hb : RowB w H 22 #[.slice A ns.length c]) (i j : Fin ns.length) :
    Calls Tryz.prog 72 (#[.int .i64 (i.val : Int), .int .i64 (j.val : Int)] ++ #[.pointer (some ⟨H, 0, none⟩)]) w fun e w' => e = .returned (.int .i64 (cfN ns i j)) ∧ ∃ q, w' = w.drewN q := by
  obtain ⟨a, ha⟩ : ∃ a, a = ns[i] := ⟨_, rfl⟩
  obtain ⟨b, hbb⟩ : ∃ b, b = ns[j] := ⟨_, rfl⟩
  have e1 : ns[i.val]? = some a := by rw [ha]; exact List.getElem?_eq_getElem i.2
  have e2 : ns[j.val]? = some b := by rw [hbb]; exact List.getElem?_eq_getElem j.2
  obtain ⟨g, o, hA, _, hg, z0, _⟩ := hN.nth e1
  obtain ⟨g', o', hA', _, hg', z1, _⟩ := hN.nth e2
  rw [hA] at hA'
  injection hA' with hA'
  injection hA' with h1 h2
  subst h1 h2
  have HC : Hid (cfN ns i j = Lib.compareBytes a.data.toList b.data.toList) := by unfold Hid cfN; rw [ha, hbb]
  have C : ∀ k, Calls Tryz.prog 73 #[.string a, .string b] (w.drewN k) fun e w' => e = .returned (.int .i64 (Lib.compareBytes a.data.toList b.data.toList)) ∧ w' = w.drewN k := fun k => compare_any a b _
  have r1 := hb.cell
  have l1 : ((i.val : Nat) : Int) < (ns.length : Int) := by have := i.2; omega
  have l2 : ((j.val : Nat) : Int) < (ns.length : Int) := by have := j.2; omega
  rw [HC.out]
  clear hN e1 e2 ha hbb HC
  generalize Lib.compareBytes a.data.toList b.data.toList = r at *
  generalize i.val = x at *
  generalize j.val = y at *
  generalize ns.length = n at *
  subst hA
  have CH := Lib.hid C
  clear hb C
  go_enter Tryz.func72, Tryz.ntmps72
  go_wp2_with fail
  go_quiet (first
    | (go_at_call 73; exact Calls.quiet_of_same (CH.out _)))
  go_wp2_with fail
  (first | go_ret | go_ret2)
  exact ⟨rfl, _, rfl⟩
theorem info3 : (Tryz.prog.info? 3).map (fun i => (i.zero, i.size, i.bytes)) = some (some (.int .i64 0), 1, 8) := by kernel_rfl
/-- Places of names, in the names' order. -/
structure Ris (ns : List ByteArray) (pl : List Nat) : Prop where
  len : pl.length = ns.length
  mem : ∀ i, i ∈ pl ↔ i < ns.length
  nodup : pl.Nodup
  ord : ∀ (i j : Nat) (a b : ByteArray), i < j → (∃ p, pl[i]? = some p ∧ ns[p]? = some a) → (∃ p, pl[j]? = some p ∧ ns[p]? = some b) → lt b a = false
/-- What rising answers. -/
def RiseQ (ns : List ByteArray) (w : World) (e : Ending) (w' : World) : Prop :=
  ∃ (g : Nat) (pl : List Nat), e = .returned (.slice (some ⟨g, 0, none⟩) ns.length ns.length) ∧ Ris ns pl ∧ w.heap.size ≤ g ∧ g < w'.heap.size ∧ (∀ (i p : Nat), pl[i]? = some p → w'.cell? ⟨g, i, none⟩ = some (.int .i64 (p : Int))) ∧ Go.RowKit.Below w.heap.size w w'
theorem perm_ris {ns : List ByteArray} [Inhabited (Fin ns.length)] {d d' : Array (Fin ns.length)} (hd : d = (List.finRange ns.length).toArray) (hp : PermIn 0 d.size d d') (hs : SortedIn (ltOf (cfN ns)) 0 d.size d') : Ris ns (d'.toList.map (·.val)) := by
  obtain ⟨h1, _, h3⟩ := hp
  have hsz : d.size = ns.length := by rw [hd]; simp
  have e1 : d.extract 0 d.size = d := by simp
  have e2 : d'.extract 0 d.size = d' := by rw [← h1]; exact Array.extract_size
  rw [e1, e2] at h3
  have hl : d.toList = List.finRange ns.length := by rw [hd]
  rw [hl] at h3
  have hp2 : (d'.toList.map (·.val)).Perm ((List.finRange ns.length).map (·.val)) := h3.map _
  have hfr : (List.finRange ns.length).map (·.val) = List.range ns.length := by
    refine List.ext_getElem (by simp) fun i h1 h2 => ?_
    rw [List.getElem_map, List.getElem_finRange, List.getElem_range]
    rfl
  rw [hfr] at hp2
  refine ⟨by simpa using hp2.length_eq, fun i => by rw [hp2.mem_iff]; simp, hp2.nodup_iff.2 List.nodup_range, ?_⟩
  rintro i j a b hij ⟨p, hp, hpa⟩ ⟨q, hq, hqb⟩
  have hi : i < d'.size ∧ j < d'.size := by
    have := (List.getElem?_eq_some_iff.1 hp).1
    have := (List.getElem?_eq_some_iff.1 hq).1
    simp at *; omega
  have := hs i j (Nat.zero_le _) hij (by rw [← h1]; exact hi.2)
  rw [ltOf_cfN, getElem!_pos d' j hi.2, getElem!_pos d' i hi.1] at this
  have ep : d'[i].val = p := by
    have : (d'.toList.map (·.val))[i]? = some d'[i].val := by simp [hi.1]
    rw [this] at hp; injection hp
  have eq : d'[j].val = q := by
    have : (d'.toList.map (·.val))[j]? = some d'[j].val := by simp [hi.2]
    rw [this] at hq; injection hq
  have ea : ns[d'[i]] = a := by
    have h5 : ns[d'[i].val]? = some a := by rw [ep]; exact hpa
    rw [List.getElem?_eq_getElem (l := ns) d'[i].2] at h5
    injection h5
  have eb : ns[d'[j]] = b := by
    have h5 : ns[d'[j].val]? = some b := by rw [eq]; exact hqb
    rw [List.getElem?_eq_getElem (l := ns) d'[j].2] at h5
    injection h5
  rw [ea, eb] at this
  exact this
end Tm
end Go.Proofs.YtifkjngclkklfaaGreatDoor
/- Contracts: rising: the places of names in order. -/
namespace Go.Proofs.YtifkjngclkklfaaGreatDoor
open Go.RowKit Go.Sort
namespace Tm
/-- A row that counts its places, as far as i. -/
def Cnt (w : World) (g n i : Nat) : Prop := ∃ cs : Array Value, RowB w g 3 cs ∧ cs.size = n ∧ ∀ j, j < n → cs[j]? = some (.int .i64 ((if j < i then j else 0 : Nat) : Int))
theorem Cnt.next {w : World} {g n i : Nat} (h : Cnt w g n i) (hi : i < n) : Cnt (w.setCell ⟨g, i, none⟩ (.int .i64 (i : Int))) g n (i + 1) := by
  obtain ⟨cs, h1, h2, h3⟩ := h
  refine ⟨_, h1.put i _, by simpa using h2, fun j hj => ?_⟩
  rw [Array.getElem?_setIfInBounds]
  by_cases e : i = j
  · subst e
    rw [if_pos rfl, if_pos (by omega), if_pos (by omega)]
  · rw [if_neg e, h3 j hj]
    by_cases h' : j < i
    · rw [if_pos h', if_pos (by omega)]
    · rw [if_neg h', if_neg (by omega)]
theorem Cnt.cell {w : World} {g n i : Nat} (h : Cnt w g n i) (hi : i < n) : ∃ v, w.cell? ⟨g, i, none⟩ = some v ∧ w.frozen? ⟨g, i, none⟩ = false := by
  obtain ⟨cs, h1, h2, h3⟩ := h
  exact ⟨_, (h1.cell i).trans (h3 i hi), h1.thaw i⟩
theorem Cnt.all {w : World} {g n : Nat} (h : Cnt w g n n) [Inhabited (Fin n)] : Holds (encF (n := n)) w g 0 (List.finRange n).toArray := by
  obtain ⟨cs, h1, h2, h3⟩ := h
  intro j hj
  have hj' : j < n := by simpa using hj
  refine ⟨?_, h1.thaw _⟩
  rw [Nat.zero_add, h1.cell, h3 j hj', if_pos hj', getElem!_pos (List.finRange n).toArray j hj]
  simp [encF]

set_option maxHeartbeats 4000000 in
set_option maxRecDepth 100000 in
theorem sort_any (n : Nat) (hn0 : 0 < n) (ns : List ByteArray) (hn : n = ns.length) (hn1 : n ≤ 1000001) (w : World) (P : Nat → Prop) (A : Option Addr) (c H g : Nat) (hN : NV w P ns A c) (hP : ∀ x, P x → x < g) (hb : RowB w H 22 #[.slice A n c]) (hH : H < g) (hc : Cnt w g n n) (hg : g < w.heap.size) :
    Calls Tryz.prog 71 #[.slice (some ⟨g, 0, none⟩) n n, .func (.func 72) #[] #[.pointer (some ⟨H, 0, none⟩)]] w fun e w' => e = .returned (.tuple #[]) ∧ (∃ pl : List Nat, Ris ns pl ∧ ∀ (i p : Nat), pl[i]? = some p → w'.cell? ⟨g, i, none⟩ = some (.int .i64 (p : Int))) ∧ Go.RowKit.Below g w w' := by
  subst hn
  haveI : Inhabited (Fin ns.length) := ⟨⟨0, hn0⟩⟩
  have hd : (List.finRange ns.length).toArray.size = ns.length := by simp
  have hcmp : CmpLays1 Tryz.prog 72 #[.pointer (some ⟨H, 0, none⟩)] (encF (n := ns.length)) (cfN ns) g 0 (List.finRange ns.length).toArray.size w := by
    intro m os dk hs x y
    have hb2 : RowB (sortWorld (encF (n := ns.length)) w g 0 m dk os) H 22 #[.slice A ns.length c] := (sortWorld_old _ w g 0 m dk os hb.lt (by omega)).trans hb
    have hN2 : NV (sortWorld (encF (n := ns.length)) w g 0 m dk os) P ns A c := hN.keep (sortWorld_size _ w g 0 m dk os) fun x hx hl => ⟨sortWorld_old _ w g 0 m dk os hl (by have := hP x hx; omega), hx⟩
    refine (rise_cmp _ ns P A c H hN2 hb2 x y).mono ?_
    rintro e w' ⟨rfl, q, rfl⟩
    exact ⟨rfl, q, #[], (grow_empty _).symm⟩
  have hcon := Any.slices_SortFunc srt (encF (n := ns.length)) (fun _ => rfl) (cfN ns) (swo_cfN ns) 72 #[.pointer (some ⟨H, 0, none⟩)] g 0 ns.length (List.finRange ns.length).toArray w (enters_of Tryz.func72 (by kernel_rfl) rfl) hcmp hc.all hg (by rw [hd]; omega)
  change Calls Tryz.prog 71 _ _ _ at hcon
  rw [hd] at hcon
  refine hcon.mono ?_
  rintro e w' ⟨rfl, d', q, os, h1, h2, rfl⟩
  refine ⟨rfl, ⟨d'.toList.map (·.val), perm_ris rfl (by rw [hd]; exact h1) (by rw [hd]; exact h2), fun i p hp => ?_⟩, sortWorld_below _ w g 0 q d' os (Nat.le_refl _) (by omega)⟩
  have hs : d'.size = (List.finRange ns.length).toArray.size := by
    have := h1.1
    exact this
  have hi : i < d'.size := by
    have := (List.getElem?_eq_some_iff.1 hp).1
    simpa using this
  have := (holds_sortWorld (encF (n := ns.length)) w g 0 q _ d' os hg hc.all hs i hi).1
  rw [Nat.zero_add, getElem!_pos d' i hi] at this
  rw [this]
  have ep : d'[i].val = p := by
    have : (d'.toList.map (·.val))[i]? = some d'[i].val := by simp [hi]
    rw [this] at hp; injection hp
  unfold encF
  rw [ep]

set_option maxHeartbeats 4000000 in
set_option maxRecDepth 100000 in
theorem rising_any (w : World) (ns : List ByteArray) (P : Nat → Prop) (A : Option Addr) (c : Nat) (hN : NV w P ns A c) (hl : ns.length ≤ 1000001) (h0 : 0 < ns.length) :
    Calls Tryz.prog 48 #[.slice A ns.length c] w (RiseQ ns w) := by
  obtain ⟨n, hn⟩ : ∃ n, n = ns.length := ⟨_, rfl⟩
  rw [← hn]
  have hn1 : n ≤ 1000001 := by omega
  obtain ⟨i0, hi0, hz0, hz1, hz2⟩ := info_parts info3
  have hmk : ∀ u : World, (Instr.makeSlice 65 (.int .i64 (n : Int)) (.int .i64 (n : Int))).run Tryz.prog u = .ok (.slice (some ⟨u.heap.size, 0, none⟩) n n) (u.alloc (.cells (madeCells (Value.int .i64 0).cells n) 3)) := fun u => by
    have := run_make (P := Tryz.prog) u 65 3 i0 _ Tryz.underlying65 hi0 hz0 .i64 .i64 (n : Int) (n : Int) (by omega) (Int.le_refl _) (by rw [hz2]; omega) (by omega)
    simpa [hz1] using this
  have hRs := size_madeCells (Value.int .i64 0).cells n
  have hR0 : ∀ t, t < n → (madeCells (Value.int .i64 0).cells n)[t]? = some (.int .i64 0) := fun t ht => by
    simp [madeCells, ht, Value.cells, Nat.mod_one]
  obtain ⟨cs0, hcs⟩ : ∃ cs0, cs0 = madeCells (Value.int .i64 0).cells n := ⟨_, rfl⟩
  rw [← hcs] at hmk hRs hR0
  have HMK := Lib.hid hmk
  have R0 := Lib.hid (RowB.new w 22 #[.slice A n c])
  have R1 := Lib.hid ((RowB.new w 22 #[.slice A n c]).alloc (.cells cs0 3))
  have HCN : Hid (Cnt ((w.alloc (.cells #[.slice A n c] 22)).alloc (.cells cs0 3)) (w.heap.size + 1) n 0) := by
    have h := RowB.new (w.alloc (.cells #[.slice A n c] 22)) 3 cs0
    refine ⟨cs0, by simpa using h, hRs, fun j hj => ?_⟩
    rw [hR0 j hj]; simp
  have HB0 : Hid (Go.RowKit.Below w.heap.size w ((w.alloc (.cells #[.slice A n c] 22)).alloc (.cells cs0 3))) := (bel1 w _).alloc (by simp) _
  have HNV := Lib.hid (hN.keep (w' := w) (Q := fun x => x < w.heap.size) (Nat.le_refl _) fun g hg hl => ⟨rfl, hl⟩)
  have rc := R0.out.cell
  have HN := Lib.hid hn
  have h00 : 0 < n := by omega
  clear hN hmk hRs hR0 hcs hl hn h0 hi0 hz0 hz1 hz2
  have hmk2 := HMK.out
  go_enter Tryz.func48, Tryz.ntmps48
  go_wp2_with fail
  clear hmk2 HMK rc
  obtain ⟨W, hW⟩ : ∃ W, W = (w.alloc (.cells #[.slice A n c] 22)).alloc (.cells cs0 3) := ⟨_, rfl⟩
  rw [← hW] at R1 HCN HB0 ⊢
  clear hW R0
  go_loopg [10] (n + 1) (fun kx s10 wr => ∃ i : Nat, s10 = .int .i64 i ∧ n - i ≤ kx ∧ i ≤ n ∧ Hid (Cnt wr (w.heap.size + 1) n i) ∧ Hid (RowB wr w.heap.size 22 #[.slice A n c]) ∧ Hid (Go.RowKit.Below w.heap.size w wr))
  case atStart => exact ⟨0, rfl, by omega, by omega, HCN.out, R1.out, HB0.out⟩
  case round =>
    obtain ⟨i, rfl, hkx, hin, HC, HR, HB⟩ := hrel
    by_cases hi : i < n
    · have hil : (i : Int) < (n : Int) := by omega
      obtain ⟨v, hv1, hv2⟩ := HC.out.cell hi
      have HC2 := Lib.hid (HC.out.next hi)
      have HR2 := Lib.hid (HR.out.far (p := ⟨w.heap.size + 1, i, none⟩) (by show w.heap.size ≠ w.heap.size + 1; omega) (.int .i64 (i : Int)))
      have HB2 : Hid (Go.RowKit.Below w.heap.size w (wr.setCell ⟨w.heap.size + 1, i, none⟩ (.int .i64 (i : Int)))) := HB.out.setCell (p := ⟨w.heap.size + 1, i, none⟩) (by show w.heap.size ≤ w.heap.size + 1; omega) _
      obtain ⟨j, hj⟩ : ∃ j, j = i + 1 := ⟨_, rfl⟩
      go_wp2_with fail
      go_roundg (n - j)
      case measure => omega
      case rel => exact ⟨j, by rw [hj]; go_num, by omega, by omega, by rw [hj]; exact HC2.out, HR2.out, HB2.out⟩
    · have hil : ¬ (i : Int) < (n : Int) := by omega
      obtain rfl : i = n := by omega
      have HS : Hid (w.heap.size + 1 < wr.heap.size) := by
        obtain ⟨cs, h1, _⟩ := HC.out
        exact h1.lt
      have C := Lib.hid (sort_any i h00 ns HN.out hn1 wr (fun x => x < w.heap.size) A c w.heap.size (w.heap.size + 1) (HNV.out.keep HB.out.size fun g hg _ => ⟨HB.out.block g hg, hg⟩) (fun x hx => by omega) HR.out (by omega) HC.out HS.out)
      have hmf : ∀ (fn : Fn) (first cap : Array Value) (w : World), (Instr.makeFunc fn first cap).run Tryz.prog w = .ok (.func fn first cap) w := fun _ _ _ _ => rfl
      clear hi
      go_wp2_with fail
      refine C.out.mono ?_
      rintro e w2 ⟨rfl, ⟨pl, hp, hcell⟩, hb2⟩
      have HF : Hid (RiseQ ns w (.returned (.slice (some ⟨w.heap.size + 1, 0, none⟩) i i)) w2) := ⟨w.heap.size + 1, pl, by rw [HN.out], hp, by omega, Nat.lt_of_lt_of_le HS.out hb2.size, hcell, HB.out.trans (hb2.mono (by omega))⟩
      clear hp hcell hb2 C
      go_wp2_with fail
      (first | go_ret | go_ret2)
      exact HF.out
end Tm
end Go.Proofs.YtifkjngclkklfaaGreatDoor
/- Contracts: rising, of no name, too. -/
namespace Go.Proofs.YtifkjngclkklfaaGreatDoor
open Go.RowKit Go.Sort
namespace Tm
set_option maxHeartbeats 4000000 in
set_option maxRecDepth 100000 in
theorem rising_nil (w : World) (A : Option Addr) (c : Nat) : Calls Tryz.prog 48 #[.slice A 0 c] w (RiseQ [] w) := by
  obtain ⟨i0, hi0, hz0, hz1, hz2⟩ := info_parts info3
  have hmk : ∀ u : World, (Instr.makeSlice 65 (.int .i64 0) (.int .i64 0)).run Tryz.prog u = .ok (.slice (some ⟨u.heap.size, 0, none⟩) 0 0) (u.alloc (.cells #[] 3)) := fun u => by
    have := run_make (P := Tryz.prog) u 65 3 i0 _ Tryz.underlying65 hi0 hz0 .i64 .i64 0 0 (by omega) (Int.le_refl _) (by rw [hz2]; omega) (by omega)
    rw [hz1, Array.eq_empty_of_size_eq_zero (xs := madeCells (Value.int IntKind.i64 0).cells (Int.toNat 0 * 1)) (by simp [madeCells])] at this
    exact this
  have R0 := Lib.hid (RowB.new w 22 #[.slice A 0 c])
  have HB0 : Hid (Go.RowKit.Below w.heap.size w ((w.alloc (.cells #[.slice A 0 c] 22)).alloc (.cells #[] 3))) := (bel1 w _).alloc (by simp) _
  have rc := R0.out.cell
  have C := fun (fv : Value) (u : World) => AnyF.slices_SortFunc_none (P := Tryz.prog) (ρ := srt_ren) { srt with } (some ⟨w.heap.size + 1, 0, none⟩) 0 fv u
  change ∀ (fv : Value) (u : World), Calls Tryz.prog 71 #[.slice (some ⟨w.heap.size + 1, 0, none⟩) 0 0, fv] u fun e w' => e = .returned (.tuple #[]) ∧ w' = u at C
  have hmf : ∀ (fn : Fn) (first cap : Array Value) (w : World), (Instr.makeFunc fn first cap).run Tryz.prog w = .ok (.func fn first cap) w := fun _ _ _ _ => rfl
  clear hi0 hz0 hz1 hz2
  go_enter Tryz.func48, Tryz.ntmps48
  go_wp2_with fail
  obtain ⟨W, hW⟩ : ∃ W, W = (w.alloc (.cells #[.slice A 0 c] 22)).alloc (.cells #[] 3) := ⟨_, rfl⟩
  have HS : Hid (w.heap.size + 1 < W.heap.size) := by unfold Hid; rw [hW]; simp
  rw [← hW] at HB0 ⊢
  clear hW R0 rc hmk
  go_loopg [10] 1 (fun kx s10 wr => s10 = .int .i64 0 ∧ 1 - 0 ≤ kx + 1 ∧ Hid (W = wr))
  case atStart => exact ⟨rfl, by omega, rfl⟩
  case round =>
    obtain ⟨rfl, _, HW⟩ := hrel
    obtain rfl := HW.out
    go_wp2_with fail
    refine (C _ _).mono ?_
    rintro e w2 ⟨rfl, rfl⟩
    go_wp2_with fail
    (first | go_ret | go_ret2)
    refine ⟨w.heap.size + 1, [], rfl, ⟨rfl, fun i => by simp, List.nodup_nil, fun i j a b _ h => ?_⟩, by omega, HS.out, fun i p h => by simp at h, HB0.out⟩
    obtain ⟨p, hp, _⟩ := h
    simp at hp
theorem rising_all (w : World) (ns : List ByteArray) (P : Nat → Prop) (A : Option Addr) (c : Nat) (hN : NV w P ns A c) (hl : ns.length ≤ 1000001) : Calls Tryz.prog 48 #[.slice A ns.length c] w (RiseQ ns w) := by
  cases ns with
  | nil => exact rising_nil w A c
  | cons a l => exact rising_any w (a :: l) P A c hN hl (by simp)
end Tm
end Go.Proofs.YtifkjngclkklfaaGreatDoor
