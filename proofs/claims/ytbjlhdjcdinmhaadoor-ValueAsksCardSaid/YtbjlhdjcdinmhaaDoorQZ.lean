/- Values: QZ. -/
import Derived.Test.YtbjlhdjcdinmhaaDoorQS
import Derived.Lib.Walk
import Derived.Deep.Draws
namespace Go.Proofs.YtbjlhdjcdinmhaaDoor
open Go.RowKit Go.Op
namespace Vm
set_option maxHeartbeats 1000000 in
theorem isnan1 (x : ByteArray) (w : World) : Calls Tryd.prog 67 #[.string x] w fun e w' => e = .returned (.bool false) ∧ w' = w := by
  go_enter Tryd.func67, Tryd.ntmps67
  go_wp2
  go_ret
  exact ⟨by simp, rfl⟩
set_option maxHeartbeats 1000000 in
theorem isnan2 (x : ByteArray) (w : World) : Calls Tryd.prog 57 #[.string x] w fun e w' => e = .returned (.bool false) ∧ w' = w := by
  go_enter Tryd.func57, Tryd.ntmps57
  go_wp2
  go_ret
  exact ⟨by simp, rfl⟩
set_option maxHeartbeats 1000000 in
theorem less_any (x y : ByteArray) (w : World) : Calls Tryd.prog 56 #[.string x, .string y] w fun e w' => e = .returned (.bool (lt x y)) ∧ w' = w := by
  go_enter Tryd.func56, Tryd.ntmps56
  go_wp2_with (go_at_call 67; refine (isnan1 _ _).mono ?_; rintro e w' ⟨rfl, rfl⟩)
  go_ret
  exact ⟨rfl, rfl⟩
/-- Where a name would stand. -/
structure Sch (ns : List ByteArray) (x : ByteArray) (i j : Nat) : Prop where
  lo : ∀ k (h : k < ns.length), k < i → lt ns[k] x = true
  hi : ∀ k (h : k < ns.length), j ≤ k → lt ns[k] x = false
theorem Sch.up {ns : List ByteArray} {x s : ByteArray} {i j h : Nat} (S : Sch ns x i j) (hr : riseB ns = true) (e : ns[h]? = some s) (k : lt s x = true) : Sch ns x (h + 1) j := by
  obtain ⟨hh, rfl⟩ := List.getElem?_eq_some_iff.1 e
  refine ⟨fun a ha hl => ?_, S.hi⟩
  rcases Nat.lt_or_ge a h with hah | hah
  · exact lt_trans (rise_get hr hah hh) k
  · obtain rfl : a = h := by omega
    exact k
theorem Sch.down {ns : List ByteArray} {x s : ByteArray} {i j h : Nat} (S : Sch ns x i j) (hr : riseB ns = true) (e : ns[h]? = some s) (k : lt s x = false) : Sch ns x i h := by
  obtain ⟨hh, rfl⟩ := List.getElem?_eq_some_iff.1 e
  refine ⟨S.lo, fun a ha hl => ?_⟩
  rcases Nat.lt_or_ge h a with hah | hah
  · cases c : lt ns[a] x
    · rfl
    · rw [lt_trans (rise_get hr hah ha) c] at k; cases k
  · obtain rfl : a = h := by omega
    exact k
theorem Sch.mem {ns : List ByteArray} {x : ByteArray} {i : Nat} (S : Sch ns x i i) (hr : riseB ns = true) (h : x ∈ ns) : ns[i]? = some x := by
  obtain ⟨p, hp, rfl⟩ := List.getElem_of_mem h
  have h1 : i ≤ p := by
    rcases Nat.lt_or_ge p i with hpi | hpi
    · have := S.lo p hp hpi; rw [lt_irrefl] at this; cases this
    · exact hpi
  rcases Nat.eq_or_lt_of_le h1 with e | e
  · subst e; exact List.getElem?_eq_getElem hp
  · have := S.hi i (by omega) (Nat.le_refl _)
    rw [rise_get hr e hp] at this
    cases this
theorem Sch.start (ns : List ByteArray) (x : ByteArray) : Sch ns x 0 ns.length := ⟨fun k h hk => by omega, fun k h hk => by omega⟩

/-- What BinarySearch answers. -/
def SearchQ (ns : List ByteArray) (x : ByteArray) (w : World) (e : Ending) (w' : World) : Prop :=
  ∃ (i : Nat) (b : Bool), e = .returned (.tuple #[.int .i64 i, .bool b]) ∧ (b = true ↔ x ∈ ns) ∧ (x ∈ ns → ns[i]? = some x) ∧ Below w.heap.size w w'
set_option maxHeartbeats 4000000 in
set_option maxRecDepth 100000 in
theorem search_any (w : World) (ns : List ByteArray) (x : ByteArray) (P : Nat → Prop) (A : Option Addr) (c : Nat) (h : NV w P ns A c) (hl : ns.length ≤ 1000001) (hr : riseB ns = true) :
    Calls Tryd.prog 40 #[.slice A ns.length c, .string x] w (SearchQ ns x w) := by
  have HK := Lib.hid h
  obtain ⟨n, hn⟩ : ∃ n, n = ns.length := ⟨_, rfl⟩
  have HN := Lib.hid hn
  have HR := Lib.hid hr
  have hn1 : n ≤ 1000001 := by omega
  rw [← hn]
  clear h hn hl hr
  go_enter Tryd.func40, Tryd.ntmps40
  go_wp2_with fail
  go_loopg [7, 8] (n + 1) (fun kx s7 s8 wr => ∃ (i j : Nat), s7 = .int .i64 i ∧ s8 = .int .i64 j ∧ i ≤ j ∧ j ≤ n ∧ j - i ≤ kx ∧ Hid (Sch ns x i j) ∧ Hid (w = wr))
  case atStart => exact ⟨0, n, rfl, rfl, by omega, by omega, by omega, by rw [HN.out]; exact Sch.start ns x, rfl⟩
  case round =>
    obtain ⟨i, j, rfl, rfl, hij, hjn, hkx, HS, HW⟩ := hrel
    obtain rfl := HW.out
    by_cases hlt : i < j
    · have hltz : (i : Int) < (j : Int) := by omega
      obtain ⟨s, e⟩ := get_lt (l := ns) (i := (i + j) / 2) (by rw [← HN.out]; omega)
      obtain ⟨g, o, hA, _, hg, z0, _⟩ := HK.out.nth e
      have C := Lib.hid (less_any s x w)
      have HE := Lib.hid e
      clear e
      cases hq : lt s x
      · have HS2 := Lib.hid (HS.out.down HR.out HE.out hq)
        rw [hq] at C
        subst hA
        clear hq
        go_wp2_with fail
        refine C.out.mono ?_
        rintro e w1 ⟨rfl, rfl⟩
        clear C z0
        go_wp2_with fail
        go_roundg ((i + j) / 2 - i)
        case measure => omega
        case rel => exact ⟨i, (i + j) / 2, rfl, by first | rfl | rw [show ((i : Int) + (j : Int)) / 2 = (((i + j) / 2 : Nat) : Int) by omega], by omega, by omega, by omega, HS2.out, rfl⟩
      · have HS2 := Lib.hid (HS.out.up HR.out HE.out hq)
        rw [hq] at C
        subst hA
        clear hq
        go_wp2_with fail
        refine C.out.mono ?_
        rintro e w1 ⟨rfl, rfl⟩
        clear C z0
        go_wp2_with fail
        go_roundg (j - ((i + j) / 2 + 1))
        case measure => omega
        case rel => exact ⟨(i + j) / 2 + 1, j, by rw [show ((i : Int) + (j : Int)) / 2 + 1 = (((i + j) / 2 + 1 : Nat) : Int) by omega], rfl, by omega, by omega, by omega, HS2.out, rfl⟩
    · have hltz : ¬ (i : Int) < (j : Int) := by omega
      obtain rfl : i = j := by omega
      by_cases hin : i < n
      · have hinz : (i : Int) < (n : Int) := by omega
        obtain ⟨s, e⟩ := get_lt (l := ns) (i := i) (by rw [← HN.out]; omega)
        obtain ⟨g, o, hA, _, hg, z0, _⟩ := HK.out.nth e
        have C1 := Lib.hid (isnan2 s w)
        have HE := Lib.hid e
        clear e
        subst hA
        by_cases hs : s = x
        · have q : (s.toList == x.toList) = true := by rw [beq_ba]; exact decide_eq_true hs
          have HM : Hid (x ∈ ns) := by rw [← hs]; exact List.mem_of_getElem? HE.out
          have HE2 : Hid (ns[i]? = some x) := by rw [← hs]; exact HE.out
          clear hs
          go_wp2_with fail
          go_ret2
          exact ⟨i, true, rfl, ⟨fun _ => HM.out, fun _ => rfl⟩, fun _ => HE2.out, Below.refl _ _⟩
        · have q : (s.toList == x.toList) = false := by rw [beq_ba]; exact decide_eq_false hs
          have HM : Hid (x ∉ ns) := fun hm => by
            have := HS.out.mem HR.out hm
            rw [HE.out] at this
            injection this with this
            exact hs this
          clear hs
          go_wp2_with fail
          refine C1.out.mono ?_
          rintro e w1 ⟨rfl, rfl⟩
          clear C1
          go_wp2_with fail
          go_ret2
          exact ⟨i, false, rfl, ⟨fun h => (by cases h), fun h => absurd h HM.out⟩, fun h => absurd h HM.out, Below.refl _ _⟩
      · have hinz : ¬ (i : Int) < (n : Int) := by omega
        have HM : Hid (x ∉ ns) := fun hm => by
          have := HS.out.mem HR.out hm
          rw [List.getElem?_eq_none (by rw [← HN.out]; omega)] at this
          cases this
        go_wp2_with fail
        go_ret2
        exact ⟨i, false, rfl, ⟨fun h => (by cases h), fun h => absurd h HM.out⟩, fun h => absurd h HM.out, Below.refl _ _⟩

/-- What Field answers. -/
def FieldQ (P : Nat → Prop) (o : Option Vl) (w : World) (e : Ending) (w' : World) : Prop :=
  Below w.heap.size w w' ∧ match o with
    | some p => ∃ An cn A c, e = .returned (.tuple #[vv p An cn A c, .bool true]) ∧ VI w' P p An cn A c
    | none => e = .returned (.tuple #[zv, .bool false])
theorem field_none {t : Vl} {x : ByteArray} (h : x ∉ t.names) : t.field x = none := by
  unfold Vl.field
  split
  · exact lk_none h
  · rfl

set_option maxHeartbeats 4000000 in
set_option maxRecDepth 100000 in
theorem pfield_any (w : World) (k : VH) (ns : List ByteArray) (ps : List Vl) (x : ByteArray) (P : Nat → Prop) (An : Option Addr) (cn : Nat) (A : Option Addr) (c : Nat) (hN : NV w P ns An cn) (h : VV w P ps A c) (hl : ns.length ≤ 1000001) (hr : (Vl.mk k ns ps).right = true) :
    Calls Tryd.prog 17 #[.agg (varr k An ns.length cn A ps.length c), .string x] w (FieldQ P ((Vl.mk k ns ps).field x) w) := by
  have hn : riseB ns = true := by
    rcases right_cases hr with ⟨_, _, rfl, _⟩ | ⟨_, _, rfl, _⟩ | ⟨_, _, _, rfl, _⟩ | ⟨_, _, _, _, h⟩
    · rfl
    · rfl
    · rfl
    · exact h
  have b1 : Below w.heap.size w (w.alloc (.cells (varr k An ns.length cn A ps.length c) 34)) := bel1 w _
  have b2 : Below (w.alloc (.cells (varr k An ns.length cn A ps.length c) 34)).heap.size (w.alloc (.cells (varr k An ns.length cn A ps.length c) 34)) _ := bel1 _ (.cells zvc 34)
  have HB0 := Lib.hid (b1.trans (b2.mono b1.size))
  have R1 := Lib.hid ((RowB.new w 34 (varr k An ns.length cn A ps.length c)).alloc (.cells zvc 34))
  have R2 : Hid (RowB ((w.alloc (.cells (varr k An ns.length cn A ps.length c) 34)).alloc (.cells zvc 34)) (w.heap.size + 1) 34 zvc) := by
    have := RowB.new (w.alloc (.cells (varr k An ns.length cn A ps.length c) 34)) 34 zvc
    unfold Hid
    simpa using this
  have C := Lib.hid (search_any _ ns x P An cn ((hN.below b1).below b2) hl hn)
  have HK := Lib.hid h
  have HR := Lib.hid hr
  obtain ⟨o, ho⟩ : ∃ o, o = (Vl.mk k ns ps).field x := ⟨_, rfl⟩
  rw [← ho]
  have HO := Lib.hid ho
  have HN := Lib.hid hn
  have rc := R1.out.cell
  clear b1 b2 hN h hr hn ho
  go_enter Tryd.func17, Tryd.ntmps17
  go_wp2_with fail
  refine C.out.mono ?_
  rintro e w1 ⟨i, b, rfl, hb, hi, h1⟩
  have HB1 := Lib.hid (HB0.out.trans (h1.mono HB0.out.size))
  have X1 := Lib.hid (R1.out.below h1 R1.out.lt)
  have X2 := Lib.hid (R2.out.below h1 R2.out.lt)
  have r1 := X1.out.cell
  have r2 := X2.out.cell
  have r2t := X2.out.thaw
  have Hb := Lib.hid hb
  have Hi := Lib.hid hi
  clear h1 C rc hb hi R1 R2
  cases b
  · have HF : Hid (o = none) := by
      unfold Hid
      rw [HO.out]
      exact field_none fun h => by have := Hb.out.2 h; cases this
    clear Hb Hi HO
    go_wp2_with fail
    refine bodyPost_ret (v := .tuple #[zv, .bool false]) ?_ rfl ⟨below_put5 HB1.out (by omega) _ _ _ _ _, by rw [HF.out]⟩
    simp [results, Tryd.results17, go_sem, r2]
    try first | rfl | exact ⟨rfl, rfl⟩
  · have hm : x ∈ ns := Hb.out.1 rfl
    obtain ⟨hil, he⟩ := List.getElem?_eq_some_iff.1 (Hi.out hm)
    have hk : k.kind = 3 ∧ ns.length = ps.length := by
      rcases right_cases HR.out with ⟨_, _, rfl, _⟩ | ⟨_, _, rfl, _⟩ | ⟨_, _, _, rfl, _⟩ | ⟨h3, _, _, hl, _⟩
      · cases hm
      · cases hm
      · cases hm
      · exact ⟨h3, hl⟩
    obtain ⟨hk3, hlen⟩ := hk
    have e3 : (k.kind != 3) = false := by rw [hk3]; rfl
    have e4 : (k.kind == 3) = true := by rw [hk3]; rfl
    have HF0 : o = some (ps[i]'(by omega)) := by
      rw [HO.out]
      unfold Vl.field
      rw [if_pos (by exact hk3), names_mk, parts_mk, ← he]
      exact lk_at (rise_nodup HN.out) hil (by omega)
    obtain ⟨t, ht⟩ : ∃ t, t = ps[i]'(by omega) := ⟨_, rfl⟩
    have e : ps[i]? = some t := by rw [ht]; exact List.getElem?_eq_getElem _
    rw [← ht] at HF0
    have HF := Lib.hid HF0
    obtain ⟨g, o', An2, cn2, A2, c2, hA, hP, hg, hti, y0, y1, y2, y3, y4⟩ := HK.out.nth e
    have z0 := (HB1.out.cell (p := ⟨g, o' + i * 5, none⟩) hg).trans y0
    have z1 := (HB1.out.cell (p := ⟨g, o' + i * 5 + 1, none⟩) hg).trans y1
    have z2 := (HB1.out.cell (p := ⟨g, o' + i * 5 + 2, none⟩) hg).trans y2
    have z3 := (HB1.out.cell (p := ⟨g, o' + i * 5 + 3, none⟩) hg).trans y3
    have z4 := (HB1.out.cell (p := ⟨g, o' + i * 5 + 4, none⟩) hg).trans y4
    have hiz : (i : Int) < (ps.length : Int) := by omega
    have hin : ¬ (i : Int) ≥ (ps.length : Int) := by omega
    have HTI := Lib.hid hti
    subst hA
    obtain ⟨kt, nt, pt⟩ := t
    simp only [hd_mk, names_mk, parts_mk] at z0 z1 z2 z3 z4
    clear Hb Hi HF0 HO hm he hk3 hlen ht e hti y0 y1 y2 y3 y4 hil hP
    go_wp2_with fail
    refine bodyPost_ret (v := .tuple #[.agg (yv kt An2 nt.length cn2 A2 pt.length c2), .bool true]) ?_ rfl ⟨below_put5 HB1.out (by omega) _ _ _ _ _, by rw [HF.out]; exact ⟨An2, cn2, A2, c2, rfl, HTI.out.keep (by first | exact HB1.out.size | (simp [put5, World.setCell]; exact HB1.out.size)) (fun g hg hl => ⟨(below_put5 HB1.out (by omega) _ _ _ _ _).block g hl, hg⟩)⟩⟩
    simp [results, Tryd.results17, go_sem, r2]
    try first | rfl | exact ⟨rfl, rfl⟩

end Vm
end Go.Proofs.YtbjlhdjcdinmhaaDoor
