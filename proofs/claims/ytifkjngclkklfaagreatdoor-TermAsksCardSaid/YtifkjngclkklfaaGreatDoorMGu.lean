/- Types of functions made: Grow, Concat, Func. -/
import Derived.Test.YtifkjngclkklfaaGreatDoorMGj
import Derived.Test.YtifkjngclkklfaaGreatDoorMGk
import Derived.Laws.OwnMore
import Derived.Lib.AppendZeros
import Derived.BigQuiet
import Derived.Test.YtifkjngclkklfaaGreatDoorMGl
import Derived.Test.YtifkjngclkklfaaGreatDoorMGn
import Derived.Test.YtifkjngclkklfaaGreatDoorMGp
namespace Go.Proofs.YtifkjngclkklfaaGreatDoor
open Go.RowKit Go.Op
namespace Tm
theorem infoTy : (Tryz.prog.info? 25).map (fun i => (i.zero, i.size, i.bytes)) = some (some (.agg #[.int .i64 0, .slice none 0 0, .slice none 0 0]), 3, 56) := by kernel_rfl
theorem infoTyE : ∃ i, Tryz.prog.info? 25 = some i ∧ i.zero = some (.agg #[.int .i64 0, .slice none 0 0, .slice none 0 0]) ∧ i.size = 3 ∧ i.bytes = 56 := by
  have h := infoTy
  cases e : Tryz.prog.info? 25 with
  | none => rw [e] at h; cases h
  | some i =>
    rw [e] at h
    simp only [Option.map_some, Option.some.injEq, Prod.mk.injEq] at h
    exact ⟨i, rfl, h.1, h.2.1, h.2.2⟩
/-- Types beside one another, put behind a row of one's own. -/
theorem append_tys {w : World} (base : Nat) (v : Value) (n : Nat) (xs : List Value) (hown : w.ownsRow base 25 3 v n xs) (A : Option Addr) (m c : Nat) (ck : List Value) (hl : ck.length = m * 3)
    (hA : 0 < m → ∃ g o, A = some ⟨g, o, none⟩ ∧ ∀ j u, ck[j]? = some u → w.cell? ⟨g, o + j, none⟩ = some u) (h1 : ∀ u ∈ ck, u.oneCell' = true) (hnm : n + m ≤ 4000004) (hbase : base ≤ w.heap.size) :
    ∃ v' w', (Builtin.append_ #[23, 23] 23 #[v, .slice A m c]).run Tryz.prog w = .ok v' w' ∧ w'.ownsRow base 25 3 v' (n + m) (xs ++ ck) ∧ w.grownBy w' v.ownBlock := by
  obtain ⟨i, hi, hz, hs, hb⟩ := infoTyE
  by_cases h0 : m = 0
  · subst h0
    obtain rfl : ck = [] := List.eq_nil_of_length_eq_zero (by simpa using hl)
    cases A with
    | none =>
      refine ⟨v, w, ?_, by simpa using hown, ⟨rfl, rfl, rfl, Nat.le_refl _, fun _ _ _ => rfl⟩⟩
      rcases hown.2 with ⟨rfl, rfl⟩ | ⟨g, cap, cur, rfl, _, _, hnc, _⟩
      · simp [Builtin.append_, run_underlying Tryz.underlying23, Go.sizeOf, typeInfo, hi, Builtin.lenOf, Builtin.firstCells]
      · simp [Builtin.append_, run_underlying Tryz.underlying23, Go.sizeOf, typeInfo, hi, Builtin.lenOf, Builtin.firstCells, hnc, storeCells]
    | some ad =>
      obtain ⟨v', w', h1, h2, h3, _⟩ := run_append_own (P := Tryz.prog) w base 23 23 25 i _ 3 56 Tryz.underlying23 hi hz hs hb rfl (by decide) v n xs hown ad 0 c [] rfl (fun j u h => by simp at h) (fun u h => by simp at h) (by simp only [maxLen]; omega) (by omega) hbase
      exact ⟨v', w', h1, h2, h3⟩
  · obtain ⟨g, o, rfl, hc⟩ := hA (by omega)
    obtain ⟨v', w', h1, h2, h3, _⟩ := run_append_own (P := Tryz.prog) w base 23 23 25 i _ 3 56 Tryz.underlying23 hi hz hs hb rfl (by decide) v n xs hown ⟨g, o, none⟩ m c ck hl (fun j u h => by rw [add_flat]; exact hc j u h) h1 (by simp only [maxLen]; omega) (by omega) hbase
    exact ⟨v', w', h1, h2, h3⟩
set_option maxHeartbeats 4000000 in
set_option maxRecDepth 100000 in
theorem grow_any (w : World) (n : Nat) (hn : n ≤ 4000004) :
    Calls Tryz.prog 74 #[.slice none 0 0, .int .i64 n] w fun e w' => ∃ A cap, e = .returned (.slice A 0 cap) ∧ w'.ownsRow w.heap.size 25 3 (.slice A 0 cap) 0 [] ∧ Below w.heap.size w w' := by
  by_cases h0 : n = 0
  · subst h0
    go_enter Tryz.func74, Tryz.ntmps74
    go_wp2_with fail
    (first | go_ret | go_ret2)
    exact ⟨none, 0, rfl, World.ownsRow_nil _ _ _ _, Below.refl _ _⟩
  · obtain ⟨i, hi, hz, hs, hb⟩ := infoTyE
    have hr := Lib.run_append_nil_zeros (P := Tryz.prog) w 23 3 23 25 i _ .i64 .i64 Tryz.underlying23 Tryz.underlying3 hi hz n (by omega) (by omega) (by omega) (by rw [hb]; omega)
    obtain ⟨G, hG⟩ : ∃ G, G = grownCap w n 0 25 := ⟨_, rfl⟩
    have hGn : n ≤ G := by rw [hG]; exact grownCap_ge w _ _ _
    have hGm : G ≤ maxLen := by rw [hG]; exact grownCap_le_maxLen w n 0 25 (by unfold maxLen; omega)
    rw [← hG] at hr
    have hbel := Below.alloc (Below.drew (Below.refl w.heap.size w)) (Nat.le_refl _) (.cells (Builtin.zeroCells (Value.agg #[.int .i64 0, .slice none 0 0, .slice none 0 0]).cells n ++ Builtin.zeroCells (Value.agg #[.int .i64 0, .slice none 0 0, .slice none 0 0]).cells (G - n)) 25)
    have hnew := heap_alloc_new w.drew (.cells (Builtin.zeroCells (Value.agg #[.int .i64 0, .slice none 0 0, .slice none 0 0]).cells n ++ Builtin.zeroCells (Value.agg #[.int .i64 0, .slice none 0 0, .slice none 0 0]).cells (G - n)) 25)
    have hsize : (Builtin.zeroCells (Value.agg #[.int .i64 0, .slice none 0 0, .slice none 0 0]).cells n ++ Builtin.zeroCells (Value.agg #[.int .i64 0, .slice none 0 0, .slice none 0 0]).cells (G - n)).size = G * 3 := by
      rw [Array.size_append]
      simp [Builtin.zeroCells, Value.cells]
      omega
    obtain ⟨cur, hcur⟩ : ∃ cur, cur = Builtin.zeroCells (Value.agg #[.int .i64 0, .slice none 0 0, .slice none 0 0]).cells n ++ Builtin.zeroCells (Value.agg #[.int .i64 0, .slice none 0 0, .slice none 0 0]).cells (G - n) := ⟨_, rfl⟩
    rw [← hcur] at hr hbel hnew hsize
    have hown : (w.drew.alloc (.cells cur 25)).ownsRow w.heap.size 25 3 (.slice (some ⟨w.heap.size, 0, none⟩) 0 G) 0 [] :=
      ⟨rfl, .inr ⟨w.heap.size, G, cur, rfl, Nat.le_refl _, hnew, Nat.zero_le _, hGm, hsize, by simp⟩⟩
    have HO := Lib.hid hown
    have HB := Lib.hid hbel
    clear hcur hown hbel hnew hsize hG hs hb hz
    have h1 : ¬ ((n : Int) < 0) := by omega
    have h4 : (n : Int) > 0 := by omega
    have hG63 : G ≤ 9223372036854775807 := by unfold maxLen at hGm; exact hGm
    go_enter Tryz.func74, Tryz.ntmps74
    go_wp2_with (at_builtin; refine Lib.wpList_append_run _ rfl _ _ _ _ rfl _ _ rfl rfl _ _ hr ?_)
    all_goals
      (first | go_ret | go_ret2)
      exact ⟨_, _, rfl, HO.out, HB.out⟩
end Tm
end Go.Proofs.YtifkjngclkklfaaGreatDoor
/- Two slices of types put behind one another, by the library. -/
namespace Go.Proofs.YtifkjngclkklfaaGreatDoor
open Go.RowKit Go.Op
namespace Tm
theorem TV.cells {w : World} {P : Nat → Prop} {ps : List Ty} {A : Option Addr} {c : Nat} (h : TV w P ps A c) :
    ∃ ck, TL w P ps ck ∧ (0 < ps.length → ∃ g o, A = some ⟨g, o, none⟩ ∧ g < w.heap.size ∧ ∀ j u, ck[j]? = some u → w.cell? ⟨g, o + j, none⟩ = some u) := by
  by_cases h0 : 0 < ps.length
  · obtain ⟨g, o, ck, h1, h2, h3, h4, h5⟩ := h.2 h0
    exact ⟨ck, h5, fun _ => ⟨g, o, h1, h3, h4⟩⟩
  · obtain rfl : ps = [] := List.eq_nil_of_length_eq_zero (by omega)
    exact ⟨[], by rw [TL], fun h => absurd h h0⟩
theorem src_below {w w' : World} {A : Option Addr} {m : Nat} {ck : List Value} (h : 0 < m → ∃ g o, A = some ⟨g, o, none⟩ ∧ g < w.heap.size ∧ ∀ j u, ck[j]? = some u → w.cell? ⟨g, o + j, none⟩ = some u) (hb : Below w.heap.size w w') :
    0 < m → ∃ g o, A = some ⟨g, o, none⟩ ∧ ∀ j u, ck[j]? = some u → w'.cell? ⟨g, o + j, none⟩ = some u := fun h0 => by
  obtain ⟨g, o, h1, h2, h3⟩ := h h0
  exact ⟨g, o, h1, fun j u hu => (hb.cell (p := ⟨g, o + j, none⟩) h2).trans (h3 j u hu)⟩
/-- How Concat's answer stands behind i slices of two. -/
structure CQ (w wr : World) (ca cb : List Value) (n m : Nat) (i : Nat) (v : Value) : Prop where
  bel : Below w.heap.size w wr
  own : (i = 0 ∧ wr.ownsRow w.heap.size 25 3 v 0 []) ∨ (i = 1 ∧ wr.ownsRow w.heap.size 25 3 v n ca) ∨ (i = 2 ∧ wr.ownsRow w.heap.size 25 3 v (n + m) (ca ++ cb))
set_option maxHeartbeats 8000000 in
set_option maxRecDepth 100000 in
theorem concat2_any (w : World) (ps qs : List Ty) (P P' : Nat → Prop) (A B : Option Addr) (c d : Nat) (hA : TV w P ps A c) (hB : TV w P' qs B d) (H : Nat) (RH : RowB w H 23 #[.slice A ps.length c, .slice B qs.length d]) (hl : ps.length ≤ 1000001) (hl' : qs.length ≤ 1000001) :
    Calls Tryz.prog 50 #[.slice (some ⟨H, 0, none⟩) 2 2] w fun e w' => ∃ A' c', e = .returned (.slice A' (ps.length + qs.length) c') ∧ TV w' (fun g => (P g ∨ P' g) ∨ w.heap.size ≤ g) (ps ++ qs) A' c' ∧ Below w.heap.size w w' := by
  obtain ⟨ca, hca, sa⟩ := hA.cells
  obtain ⟨cb, hcb, sb⟩ := hB.cells
  have la := TL.len _ _ hca
  have lb := TL.len _ _ hcb
  have oa := TL.cell1 _ _ hca
  have ob := TL.cell1 _ _ hcb
  have LA := Lib.hid hca
  have LB := Lib.hid hcb
  have SA := Lib.hid sa
  have SB := Lib.hid sb
  have RR := Lib.hid RH
  obtain ⟨n, hn⟩ : ∃ n, n = ps.length := ⟨_, rfl⟩
  obtain ⟨m, hm⟩ : ∃ m, m = qs.length := ⟨_, rfl⟩
  rw [← hn] at la hl SA
  rw [← hm] at lb hl' SB
  rw [← hn, ← hm] at RR ⊢
  have HA := Lib.hid la
  have HBl := Lib.hid lb
  have OA := Lib.hid oa
  have OB := Lib.hid ob
  have HN := Lib.hid hn
  have HM := Lib.hid hm
  clear hca hcb sa sb la lb oa ob RH hA hB hn hm
  go_enter Tryz.func50, Tryz.ntmps50
  go_wp2_with fail
  go_loopg [3, 11] 3 (fun kx s3 s11 wr => ∃ (i : Nat) (z : Int), s11 = .int .i64 i ∧ s3 = .int .i64 z ∧ i ≤ 2 ∧ 2 - i ≤ kx ∧ Hid ((i = 0 → z = 0) ∧ (i = 1 → z = n) ∧ (i = 2 → z = (n : Int) + (m : Int))) ∧ Hid (Below w.heap.size w wr))
  case atStart => exact ⟨0, 0, rfl, rfl, by omega, by omega, ⟨fun _ => rfl, fun h => by omega, fun h => by omega⟩, Below.refl _ _⟩
  case round =>
    obtain ⟨i, z, rfl, rfl, hi, hkx, HZ, HB⟩ := hrel
    have rc := (RR.out.below HB.out RR.out.lt).cell
    by_cases hi2 : i < 2
    · have hil : (i : Int) < 2 := by omega
      by_cases hi0 : i = 0
      · subst hi0
        obtain rfl := HZ.out.1 rfl
        clear HZ hi hil hi2
        go_wp2_with fail
        all_goals
          go_roundg 1
          case measure => omega
          case rel => exact ⟨1, (n : Int), rfl, by first | rfl | simp, by omega, by omega, ⟨fun h => by omega, fun _ => rfl, fun h => by omega⟩, HB.out⟩
      · obtain rfl : i = 1 := by omega
        obtain rfl := HZ.out.2.1 rfl
        clear HZ hi hil hi2 hi0
        go_wp2_with fail
        all_goals
          go_roundg 0
          case measure => omega
          case rel => exact ⟨2, (n : Int) + (m : Int), rfl, by first | rfl | simp, by omega, by omega, ⟨fun h => by omega, fun h => by omega, fun _ => rfl⟩, HB.out⟩
    · obtain rfl : i = 2 := by omega
      obtain rfl := HZ.out.2.2 rfl
      clear HZ hi hi2 hkx rc
      have CG := Lib.hid (grow_any wr (n + m) (by omega))
      have HC : Hid (Calls Tryz.prog 74 #[.slice none 0 0, .int .i64 ((n : Int) + (m : Int))] wr fun e w' => ∃ A cap, e = .returned (.slice A 0 cap) ∧ w'.ownsRow wr.heap.size 25 3 (.slice A 0 cap) 0 [] ∧ Below wr.heap.size wr w') := by
        have := CG.out
        rw [Int.natCast_add] at this
        exact this
      clear CG
      go_wp2_with fail
      refine HC.out.mono ?_
      rintro e w2 ⟨A2, c2, rfl, hown, hb2⟩
      have HQ : Hid (CQ w w2 ca cb n m 0 (.slice A2 0 c2)) := ⟨HB.out.trans (hb2.mono HB.out.size), .inl ⟨rfl, hown.1, by
        rcases hown.2 with h | ⟨g, cap, cur, h1, h2, h3⟩
        · exact .inl h
        · exact .inr ⟨g, cap, cur, h1, Nat.le_trans HB.out.size h2, h3⟩⟩⟩
      clear HC hown hb2 HB
      go_wp2_with fail
      go_loopg [6, 27] 3 (fun kx s6 s27 wx => ∃ (i : Nat) (v : Value), s27 = .int .i64 i ∧ s6 = v ∧ i ≤ 2 ∧ 2 - i ≤ kx ∧ Hid (CQ w wx ca cb n m i v))
      case atStart => exact ⟨0, _, rfl, rfl, by omega, by omega, HQ.out⟩
      case round =>
        obtain ⟨i, v, rfl, rfl, hi, hkx, HX⟩ := hrel
        clear HQ
        have rc := (RR.out.below HX.out.bel RR.out.lt).cell
        by_cases hi2 : i < 2
        · by_cases hi0 : i = 0
          · subst hi0
            have ho := HX.out.own
            simp at ho
            obtain ⟨v', w', hr, hown, hg⟩ := append_tys w.heap.size _ 0 [] ho A n c ca HA.out (src_below SA.out HX.out.bel) OA.out (by omega) HX.out.bel.size
            have HN2 : Hid (CQ w w' ca cb n m 1 v') := ⟨HX.out.bel.grown hg HX.out.bel.size (fun k e => (ho.lt k e).1), .inr (.inl ⟨rfl, by simpa using hown⟩)⟩
            clear hi hi2 ho hown hg
            go_wp2_with (at_builtin; refine Lib.wpList_append_run _ rfl _ _ _ _ rfl _ _ rfl rfl _ _ hr ?_)
            all_goals
              go_roundg 1
              case measure => omega
              case rel => exact ⟨1, _, rfl, rfl, by omega, by omega, HN2.out⟩
          · obtain rfl : i = 1 := by omega
            have ho := HX.out.own
            simp at ho
            obtain ⟨v', w', hr, hown, hg⟩ := append_tys w.heap.size _ n ca ho B m d cb HBl.out (src_below SB.out HX.out.bel) OB.out (by omega) HX.out.bel.size
            have HN2 : Hid (CQ w w' ca cb n m 2 v') := ⟨HX.out.bel.grown hg HX.out.bel.size (fun k e => (ho.lt k e).1), .inr (.inr ⟨rfl, by simpa using hown⟩)⟩
            clear hi hi2 ho hown hg
            go_wp2_with (at_builtin; refine Lib.wpList_append_run _ rfl _ _ _ _ rfl _ _ rfl rfl _ _ hr ?_)
            all_goals
              go_roundg 0
              case measure => omega
              case rel => exact ⟨2, _, rfl, rfl, by omega, by omega, HN2.out⟩
        · obtain rfl : i = 2 := by omega
          have ho := HX.out.own
          simp at ho
          obtain ⟨A3, c3, rfl, hc3⟩ := own_shape ho
          have HO := Lib.hid ho
          have hlen : n + m = (ps ++ qs).length := by rw [List.length_append, ← HN.out, ← HM.out]
          have hTA : TL w (fun g => P g ∨ P' g) ps ca := LA.out.keep (Nat.le_refl _) fun g hg _ => ⟨rfl, .inl hg⟩
          have hTB : TL w (fun g => P g ∨ P' g) qs cb := LB.out.keep (Nat.le_refl _) fun g hg _ => ⟨rfl, .inr hg⟩
          have hT := (TL.app _ _ hTA hTB).below HX.out.bel
          have HT := Lib.hid (TV.of_own ho hlen hT (Q := fun g => (P g ∨ P' g) ∨ w.heap.size ≤ g) (fun g h => .inl h) (fun g h _ => .inr h) hc3)
          clear hi hi2 ho hkx hTA hTB hT hlen rc
          go_wp2_with fail
          (first | go_ret | go_ret2)
          exact ⟨A3, c3, rfl, HT.out, HX.out.bel⟩
end Tm
end Go.Proofs.YtifkjngclkklfaaGreatDoor
/- The type of a function of some parameters, made. -/
namespace Go.Proofs.YtifkjngclkklfaaGreatDoor
open Go.RowKit Go.Op
namespace Tm
/-- A type just made, without names. -/
def MadeQ (Q : Nat → Prop) (T : Ty) (w : World) (e : Ending) (w' : World) : Prop := Below w.heap.size w w' ∧ ∃ An cn A c, e = .returned (tv T An cn A c) ∧ TI w' Q T An cn A c
set_option maxHeartbeats 4000000 in
set_option maxRecDepth 100000 in
theorem func_any (w : World) (t : Ty) (ps : List Ty) (P P' : Nat → Prop) (An : Option Addr) (cn : Nat) (A : Option Addr) (c : Nat) (B : Option Addr) (d : Nat) (hT : TI w P t An cn A c) (hP : TV w P' ps B d) (hl : ps.length ≤ 1000001) :
    Calls Tryz.prog 28 #[tv t An cn A c, .slice B ps.length d] w (MadeQ (fun g => (P' g ∨ P g) ∨ w.heap.size ≤ g) (fnOf ps t) w) := by
  replace hT : TI w (fun g => P g ∧ g < w.heap.size) t An cn A c := hT.keep (Nat.le_refl _) fun g h hlt => ⟨rfl, h, hlt⟩
  replace hP : TV w (fun g => P' g ∧ g < w.heap.size) ps B d := hP.keep (Nat.le_refl _) fun g h hlt => ⟨rfl, h, hlt⟩
  obtain ⟨S, hS⟩ : ∃ S, S = w.heap.size := ⟨_, rfl⟩
  rw [← hS] at hT hP
  have b1 := bel1 w (.cells (tarr t.kind An t.names.length cn A t.parts.length c) 25)
  obtain ⟨w1, h1⟩ : ∃ w1, w1 = w.alloc (.cells (tarr t.kind An t.names.length cn A t.parts.length c) 25) := ⟨_, rfl⟩
  have s1 : w1.heap.size = S + 1 := by rw [h1, hS]; simp
  have R1 : RowB w1 S 25 (tarr t.kind An t.names.length cn A t.parts.length c) := by rw [h1, hS]; exact RowB.new w 25 _
  rw [← h1] at b1
  obtain ⟨w2, h2⟩ : ∃ w2, w2 = w1.alloc (.cells tzc 25) := ⟨_, rfl⟩
  have b2 : Below w1.heap.size w1 w2 := by rw [h2]; exact bel1 w1 _
  have s2 : w2.heap.size = S + 2 := by rw [h2]; simp [s1]
  have R2 : RowB w2 (S + 1) 25 tzc := by rw [h2, ← s1]; exact RowB.new w1 25 _
  have R12 := R1.below b2 R1.lt
  obtain ⟨w3, h3⟩ : ∃ w3, w3 = w2.alloc (.cells (tarr t.kind An t.names.length cn A t.parts.length c) 25) := ⟨_, rfl⟩
  have b3 : Below w2.heap.size w2 w3 := by rw [h3]; exact bel1 w2 _
  have s3 : w3.heap.size = S + 3 := by rw [h3]; simp [s2]
  have R3 : RowB w3 (S + 2) 25 (tarr t.kind An t.names.length cn A t.parts.length c) := by rw [h3, ← s2]; exact RowB.new w2 25 _
  obtain ⟨w4, h4⟩ : ∃ w4, w4 = w3.alloc (.cells #[.slice B ps.length d, .slice (some ⟨S + 2, 0, none⟩) 1 1] 23) := ⟨_, rfl⟩
  have b4 : Below w3.heap.size w3 w4 := by rw [h4]; exact bel1 w3 _
  have s4 : w4.heap.size = S + 4 := by rw [h4]; simp [s3]
  have R4 : RowB w4 (S + 3) 23 #[.slice B ps.length d, .slice (some ⟨S + 2, 0, none⟩) 1 1] := by rw [h4, ← s3]; exact RowB.new w3 23 _
  have c13 := b1.trans ((b2.trans (b3.mono b2.size)).mono b1.size)
  have c14 := c13.trans (b4.mono c13.size)
  have c24 := b3.trans (b4.mono b3.size)
  have hV : TV w4 (fun g => (P g ∧ g < S) ∨ g = S + 2) [t] (some ⟨S + 2, 0, none⟩) 1 := by
    refine TV.new (R3.below b4 R3.lt) (TL.one (t := t) (An := An) (cn := cn) (A := A) (c := c) ?_) (.inr rfl)
    exact (hT.below c14).mono fun g h => .inl h
  have CC := Lib.hid (concat2_any w4 ps [t] (fun g => P' g ∧ g < S) (fun g => (P g ∧ g < S) ∨ g = S + 2) B (some ⟨S + 2, 0, none⟩) d 1 (hP.below c14) hV (S + 3) R4 hl (by simp))
  have RX := Lib.hid (R2.below c24 R2.lt)
  have HB4 := Lib.hid c14
  have rc := R12.cell
  have hN := hS
  obtain ⟨m, hm⟩ : ∃ m, m = ps.length := ⟨_, rfl⟩
  rw [← hm] at CC h4 hl ⊢
  have HM := Lib.hid hm
  have E1 := Lib.hid h1
  have E2 := Lib.hid h2
  have E3 := Lib.hid h3
  have E4 := Lib.hid h4
  have S1 := Lib.hid s1
  have S2 := Lib.hid s2
  have S3 := Lib.hid s3
  have HS := Lib.hid hS
  have HS4 := Lib.hid s4
  clear h1 h2 h3 h4 s1 s2 s3 s4 b1 b2 b3 b4 c13 c14 c24 R1 R2 R12 R3 R4 hV hm hN hT hP
  obtain ⟨k, ns, pt⟩ := t
  simp only [tv, tarr, kind_mk, names_mk, parts_mk] at E1 E3 rc ⊢
  go_enter Tryz.func28, Tryz.ntmps28
  go_wp2_with fail
  have e4 := E4.out
  have e3 := E3.out
  have e2 := E2.out
  have e1 := E1.out
  clear E1 E2 E3 E4 S1 S2 S3 HS4 HS rc
  subst e4
  subst e3
  subst e2
  subst e1
  subst hS
  refine CC.out.mono ?_
  rintro e w5 ⟨A', c', rfl, hV, hb5⟩
  have HB5 := Lib.hid (HB4.out.trans (hb5.mono HB4.out.size))
  have R5 := Lib.hid (RX.out.below hb5 RX.out.lt)
  have HV : Hid (TV w5 (fun g => ((P' g ∨ P g) ∨ w.heap.size ≤ g) ∧ g ≠ w.heap.size + 1) (ps ++ [Ty.mk k ns pt]) A' c') := hV.mono fun g h => by
    rcases h with (⟨h, h'⟩ | ⟨h, h'⟩ | h) | h
    · exact ⟨.inl (.inl h), by omega⟩
    · exact ⟨.inl (.inr h), by omega⟩
    · exact ⟨.inr (by omega), by omega⟩
    · have h' := RX.out.lt
      exact ⟨.inr (by omega), by omega⟩
  have hlt : w.heap.size + 1 < w5.heap.size := R5.out.lt
  have r5 := R5.out.cell
  have r5t := R5.out.thaw
  have hm1 : m + [Ty.mk k ns pt].length = (ps ++ [Ty.mk k ns pt]).length := by rw [List.length_append, ← HM.out]
  rw [hm1]
  clear hV hb5 CC RX HB4 HM hm1
  obtain ⟨l, hl2⟩ : ∃ l, l = (ps ++ [Ty.mk k ns pt]).length := ⟨_, rfl⟩
  rw [← hl2]
  have HL := Lib.hid hl2
  clear hl2
  go_wp2_with fail
  refine bodyPost_ret (v := .agg #[.int .i64 4, .slice none 0 0, .slice A' l c']) ?_ rfl ⟨below_put3 HB5.out (by omega) _ _ _, none, 0, A', c', by rw [HL.out]; rfl, ?_⟩
  · simp [results, Tryz.results28, go_sem, r5]
    try first | rfl | exact ⟨rfl, rfl⟩
  · refine TI_iff.2 ⟨NV.nil _ _ _ _, ?_⟩
    show TV _ _ (ps ++ [Ty.mk k ns pt]) A' c'
    refine HV.out.keep (by simp [World.setCell]) fun g hg hl => ⟨?_, hg.1⟩
    rw [Below.heap_setCell _ _ _ _ hg.2, Below.heap_setCell _ _ _ _ hg.2, Below.heap_setCell _ _ _ _ hg.2]
end Tm
end Go.Proofs.YtifkjngclkklfaaGreatDoor
/- Regions that draw their order: operations whose guard holds. -/
namespace Go.Proofs.YtifkjngclkklfaaGreatDoor
open Go.RowKit Go.Op
namespace Tm
section
variable {P : Program} {ops : Array Oper} {Q : Exit → Act → World → Prop} {md : Region.Mode} {S : Array Bool → World → Prop}
/-- The same of an operation whose guard holds. -/
theorem RG.consG {fuel : Nat} {listed : Array Bool} {a : Act} {w : World} {i : Nat} {o : Oper} {rs : List Nat} (ho : ops.toList[i]? = some o) (hg : Region.wanted o (yielded ops a.tmps) = true)
    (h : ∀ K' : Act → World → Prop, Shut (∀ a w, S (listed.setIfInBounds i true) w → (S (listed.setIfInBounds i true) w → wpG P md ops Q S fuel (listed.setIfInBounds i true) a w) → K' a w) → Oper.wp P o a w K' Q)
    (hs : RG P md ops Q S fuel listed a w rs) : RG P md ops Q S fuel listed a w (i :: rs) := fun j hj => by
  have ho' : ops[i]? = some o := by rw [← Array.getElem?_toList]; exact ho
  rcases List.mem_cons.1 hj with rfl | hj
  · refine wpOp_step ho' (fun K' hK => ?_)
    rw [if_pos hg]
    exact h K' (fun a w hS hW => hK a w ⟨hS, hW hS⟩)
  · exact hs j hj
end
end Tm
end Go.Proofs.YtifkjngclkklfaaGreatDoor
/- Contracts: what two functions' types have in common, by the program. -/
namespace Go.Proofs.YtifkjngclkklfaaGreatDoor
open Go.RowKit Go.Op
namespace Tm
theorem TI.put3 {w : World} {Q Q' : Nat → Prop} {R : Nat} {t : Ty} {An : Option Addr} {cn : Nat} {A : Option Addr} {c : Nat} (h : TI w Q t An cn A c) (hq : ∀ g, Q g → Q' g ∧ g ≠ R) (u0 u1 u2 : Value) :
    TI (((w.setCell ⟨R, 0, none⟩ u0).setCell ⟨R, 1, none⟩ u1).setCell ⟨R, 2, none⟩ u2) Q' t An cn A c :=
  h.keep (by simp [World.setCell]) fun g hg _ => ⟨by rw [Below.heap_setCell _ _ _ _ (hq g hg).2, Below.heap_setCell _ _ _ _ (hq g hg).2, Below.heap_setCell _ _ _ _ (hq g hg).2], (hq g hg).1⟩
/-- What is known of parts: common answers of them. -/
def ComIH (xs ys : List Ty) : Prop :=
  ∀ x ∈ xs, ∀ y ∈ ys, ∀ (w : World) (P P' : Nat → Prop) (An : Option Addr) (cn : Nat) (A : Option Addr) (c : Nat) (Bn : Option Addr) (dn : Nat) (B : Option Addr) (d : Nat), TI w P x An cn A c → TI w P' y Bn dn B d →
    Calls Tryz.prog 55 #[tv x An cn A c, tv y Bn dn B d] w (MadeQ (fun g => (P g ∨ P' g) ∨ w.heap.size ≤ g) (com x y) w)
set_option maxHeartbeats 8000000 in
set_option maxRecDepth 100000 in
theorem comfn_any (w : World) (xs ys : List Ty) (P P' : Nat → Prop) (An : Option Addr) (cn : Nat) (A : Option Addr) (c : Nat) (Bn : Option Addr) (dn : Nat) (B : Option Addr) (d : Nat)
    (hA : TV w P xs A c) (hB : TV w P' ys B d) (ra : (Ty.mk 4 [] xs).right = true) (rb : (Ty.mk 4 [] ys).right = true) (la : cntL xs ≤ 1000000) (lb : cntL ys ≤ 1000000) (I1 : ComIH xs ys) :
    Calls Tryz.prog 82 #[.agg #[.int .i64 4, .slice An 0 cn, .slice A xs.length c], .agg #[.int .i64 4, .slice Bn 0 dn, .slice B ys.length d]] w (MadeQ (fun g => (P g ∨ P' g) ∨ w.heap.size ≤ g) (com (.mk 4 [] xs) (.mk 4 [] ys)) w) := by
  have a0 : 0 < xs.length := (right_fn ra rfl).2
  have b0 : 0 < ys.length := (right_fn rb rfl).2
  have hcom := com_fn ra rb rfl rfl
  simp only [parts_mk] at hcom
  have HCOM := Lib.hid hcom
  clear hcom
  have ca : ∀ x ∈ xs, x.cnt ≤ 1000001 := fun x hx => by have := cnt_mem hx; omega
  have cb : ∀ x ∈ ys, x.cnt ≤ 1000001 := fun x hx => by have := cnt_mem hx; omega
  have la1 : xs.length ≤ 1000001 := by have := cntL_len xs; omega
  have lb1 : ys.length ≤ 1000001 := by have := cntL_len ys; omega
  have HCA := Lib.hid ca
  have HCB := Lib.hid cb
  replace hA := hA.low
  replace hB := hB.low
  obtain ⟨S, hS⟩ : ∃ S, S = w.heap.size := ⟨_, rfl⟩
  have b1 := bel1 w (.cells (tarr 4 An 0 cn A xs.length c) 25)
  obtain ⟨w1, h1⟩ : ∃ w1, w1 = w.alloc (.cells (tarr 4 An 0 cn A xs.length c) 25) := ⟨_, rfl⟩
  have s1 : w1.heap.size = S + 1 := by rw [h1, hS]; simp
  have R1 : RowB w1 S 25 (tarr 4 An 0 cn A xs.length c) := by rw [h1, hS]; exact RowB.new w 25 _
  rw [← h1] at b1
  obtain ⟨w2, h2⟩ : ∃ w2, w2 = w1.alloc (.cells (tarr 4 Bn 0 dn B ys.length d) 25) := ⟨_, rfl⟩
  have b2 : Below w1.heap.size w1 w2 := by rw [h2]; exact bel1 w1 _
  have s2 : w2.heap.size = S + 2 := by rw [h2]; simp [s1]
  have R2 : RowB w2 (S + 1) 25 (tarr 4 Bn 0 dn B ys.length d) := by rw [h2, ← s1]; exact RowB.new w1 25 _
  obtain ⟨w3, h3⟩ : ∃ w3, w3 = w2.alloc (.cells tzc 25) := ⟨_, rfl⟩
  have b3 : Below w2.heap.size w2 w3 := by rw [h3]; exact bel1 w2 _
  have s3 : w3.heap.size = S + 3 := by rw [h3]; simp [s2]
  have R3 : RowB w3 (S + 2) 25 tzc := by rw [h3, ← s2]; exact RowB.new w2 25 _
  have b13 := b1.trans ((b2.trans (b3.mono b2.size)).mono b1.size)
  have X1 := Lib.hid (R1.below (b2.trans (b3.mono b2.size)) R1.lt)
  have X2 := Lib.hid (R2.below b3 R2.lt)
  have X3 := Lib.hid R3
  have HB0 := Lib.hid b13
  have HTA := Lib.hid (hA.below b13)
  have HTB := Lib.hid (hB.below b13)
  have E : Hid (w3 = ((w.alloc (.cells (tarr 4 An 0 cn A xs.length c) 25)).alloc (.cells (tarr 4 Bn 0 dn B ys.length d) 25)).alloc (.cells tzc 25)) := by unfold Hid; rw [h3, h2, h1]
  have HS := Lib.hid hS
  have HS3 := Lib.hid s3
  clear h1 h2 h3 s1 s2 s3 R1 R2 R3 b1 b2 b3 b13 hA hB w1 w2
  have C1 := Lib.hid (split_any w3 4 An 0 cn xs _ A c HTA.out a0 la1)
  have C2 : Hid (∀ w', Below w3.heap.size w3 w' → Calls Tryz.prog 80 #[.agg #[.int .i64 4, .slice Bn 0 dn, .slice B ys.length d]] w' (SplitQ (fun g => P' g ∧ g < w.heap.size) (lastT ys) B (ys.length - 1) d w')) := fun w' hb => split_any w' 4 Bn 0 dn ys _ B d (HTB.out.below hb) b0 lb1
  have hml : Hid (lastT xs ∈ xs ∧ lastT ys ∈ ys) := ⟨lastT_mem a0, lastT_mem b0⟩
  have hia := Lib.hid (initT_len xs)
  have hib := Lib.hid (initT_len ys)
  obtain ⟨ta, hta⟩ : ∃ t, t = lastT xs := ⟨_, rfl⟩
  obtain ⟨tb, htb⟩ : ∃ t, t = lastT ys := ⟨_, rfl⟩
  rw [← hta] at C1 hml HCOM
  rw [← htb] at C2 hml HCOM
  obtain ⟨n, hn⟩ : ∃ n, n = xs.length - 1 := ⟨_, rfl⟩
  obtain ⟨m, hm⟩ : ∃ m, m = ys.length - 1 := ⟨_, rfl⟩
  rw [← hn] at C1 hia
  rw [← hm] at C2 hib
  obtain ⟨xl, hxl⟩ : ∃ n, n = xs.length := ⟨_, rfl⟩
  obtain ⟨yl, hyl⟩ : ∃ n, n = ys.length := ⟨_, rfl⟩
  rw [← hxl] at C1 X1 E ⊢
  rw [← hyl] at C2 X2 E ⊢
  have H1 := Lib.hid I1
  have HN1 : Hid (n ≤ 1000001 ∧ m ≤ 1000001) := ⟨by omega, by omega⟩
  have e1 := E.out
  rw [hS] at X1 X2 X3
  have HIA : Hid (TV w3 (fun g => P g ∧ g < w.heap.size) (initT xs) A c) := HTA.out.take _
  have HIB : Hid (TV w3 (fun g => P' g ∧ g < w.heap.size) (initT ys) B d) := HTB.out.take _
  have x1 := X1.out.cell
  have x2 := X2.out.cell
  clear hta htb hn hm hxl hyl E a0 b0 la lb la1 lb1 I1 ra rb ca cb HTA HTB
  go_enter Tryz.func82, Tryz.ntmps82
  go_wp2_with fail
  rw [← e1]
  refine C1.out.mono ?_
  rintro e w4 ⟨h1, An2, cn2, A2, c2, rfl, ht1⟩
  have Y2 := Lib.hid (X2.out.below h1 X2.out.lt)
  have HB1 := Lib.hid h1
  have HT1 := Lib.hid ht1
  obtain ⟨k1, n1, p1⟩ := ta
  have y2 := Y2.out.cell
  clear h1 C1 x1 x2 e1 ht1 X1 X2
  have q1 := bel1 w4 (.cells #[.int .i64 k1, .slice An2 n1.length cn2, .slice A2 p1.length c2] 25)
  have HB2 := Lib.hid (HB1.out.trans (q1.mono HB1.out.size))
  have C3 := Lib.hid (C2.out _ HB2.out)
  have Y3 := Lib.hid (Y2.out.alloc (.cells #[.int .i64 k1, .slice An2 n1.length cn2, .slice A2 p1.length c2] 25))
  have y3 := Y3.out.cell
  have R5 := Lib.hid (RowB.new w4 25 #[.int .i64 k1, .slice An2 n1.length cn2, .slice A2 p1.length c2])
  have HT2 := Lib.hid (HT1.out.below q1)
  clear q1 C2 HT1 HB1 Y2
  go_wp2_with fail
  refine C3.out.mono ?_
  rintro e w5 ⟨h2, Bn2, dn2, B2, d2, rfl, ht2⟩
  have HB3 := Lib.hid (HB2.out.trans (h2.mono HB2.out.size))
  have R6 := Lib.hid (R5.out.below h2 R5.out.lt)
  obtain ⟨k2, n2, p2⟩ := tb
  have q2 := bel1 w5 (.cells #[.int .i64 k2, .slice Bn2 n2.length dn2, .slice B2 p2.length d2] 25)
  have HB4 := Lib.hid (HB3.out.trans (q2.mono HB3.out.size))
  have R7 := Lib.hid (R6.out.alloc (.cells #[.int .i64 k2, .slice Bn2 n2.length dn2, .slice B2 p2.length d2] 25))
  have R8 := Lib.hid (RowB.new w5 25 #[.int .i64 k2, .slice Bn2 n2.length dn2, .slice B2 p2.length d2])
  have HTx := Lib.hid ((HT2.out.below h2).below q2)
  have HTy := Lib.hid (ht2.below q2)
  have C4 := equalf_any _ (.func (.func 20) #[] #[]) (initT xs) (initT ys) Ty.same _ _ A B c d ⟨20, #[], rfl, fun _ _ _ => rfl, fun x hx y hy w' P P' An cn A c Bn dn B d _ u u' => psame_any x (HCA.out x (initT_mem hx)) y (HCB.out y (initT_mem hy)) w' P P' An cn A c Bn dn B d u u'⟩ (HIA.out.below HB4.out) (HIB.out.below HB4.out) (by rw [hia.out]; exact HN1.out.1) (by rw [hib.out]; exact HN1.out.2)
  rw [hib.out, hia.out, zipB_same] at C4
  have C4 := Lib.hid C4
  have r7 := R7.out.cell
  have r8 := R8.out.cell
  obtain ⟨z, hz⟩ : ∃ z, z = sameL (initT xs) (initT ys) := ⟨_, rfl⟩
  have HZ : Hid (z = true ↔ initT xs = initT ys) := by unfold Hid; rw [hz]; exact sameL_iff _ _
  rw [← hz] at C4
  clear C3 h2 q2 ht2 R5 HT2 HB2 HB3 R6 hz Y3 y3 y2
  go_wp2_with fail
  refine C4.out.mono ?_
  rintro e w6 ⟨rfl, h3⟩
  have HB5 := Lib.hid (HB4.out.trans (h3.mono HB4.out.size))
  have HLT : Hid (w.heap.size + 2 < w3.heap.size) := X3.out.lt
  have HBA := Lib.hid (HB0.out.trans (HB5.out.mono HB0.out.size))
  cases z with
  | false =>
    have Z3 := Lib.hid (X3.out.below HB5.out X3.out.lt)
    have z3 := Z3.out.cell
    have z3t := Z3.out.thaw
    have hlt : w.heap.size + 2 < w6.heap.size := Z3.out.lt
    have HC2 : Hid (com (.mk 4 [] xs) (.mk 4 [] ys) = dyn) := by
      unfold Hid
      rw [HCOM.out]
      exact if_neg (fun h => by have := HZ.out.2 h; cases this)
    clear h3 C4 r7 r8 HCOM HZ
    go_wp2_with fail
    refine bodyPost_ret (v := tz) ?_ rfl ⟨below_put3 HBA.out (by omega) _ _ _, none, 0, none, 0, by rw [HC2.out]; rfl, by rw [HC2.out]; exact TI_iff.2 ⟨NV.nil _ _ _ _, TV.nil _ _ _ _⟩⟩
    simp [results, Tryz.results82, go_sem, z3]
    try first | rfl | exact ⟨rfl, rfl⟩
  | true =>
    have HC2 : Hid (com (.mk 4 [] xs) (.mk 4 [] ys) = fnOf (initT xs) (com (.mk k1 n1 p1) (.mk k2 n2 p2))) := by
      unfold Hid
      rw [HCOM.out]
      exact if_pos (HZ.out.1 rfl)
    have R9 := Lib.hid (R7.out.below h3 R7.out.lt)
    have R10 := Lib.hid (R8.out.below h3 R8.out.lt)
    have r9 := R9.out.cell
    have r10 := R10.out.cell
    have C5 := Lib.hid (H1.out _ hml.out.1 _ hml.out.2 w6 _ _ An2 cn2 A2 c2 Bn2 dn2 B2 d2 (HTx.out.below h3) (HTy.out.below h3))
    obtain ⟨T, hT⟩ : ∃ T, T = com (.mk k1 n1 p1) (.mk k2 n2 p2) := ⟨_, rfl⟩
    rw [← hT] at C5 HC2
    try simp only [tv, kind_mk, names_mk, parts_mk] at C5
    clear h3 C4 r7 r8 R7 R8 HCOM HZ hT
    go_wp2_with fail
    refine C5.out.mono ?_
    rintro e w7 ⟨h4, An5, cn5, A5, c5, rfl, ht5⟩
    have HB6 := Lib.hid (HB5.out.trans (h4.mono HB5.out.size))
    have C6 := func_any w7 T (initT xs) _ _ An5 cn5 A5 c5 A c ht5 (HIA.out.below HB6.out) (by rw [hia.out]; exact HN1.out.1)
    rw [hia.out] at C6
    have C6 := Lib.hid C6
    obtain ⟨k5, n5, p5⟩ := T
    try simp only [tv, kind_mk, names_mk, parts_mk] at C6
    clear h4 C5 r9 r10 ht5
    go_wp2_with fail
    refine C6.out.mono ?_
    rintro e w8 ⟨h5, An6, cn6, A6, c6, rfl, ht6⟩
    have HB7 := Lib.hid (HB6.out.trans (h5.mono HB6.out.size))
    have Z3 := Lib.hid (X3.out.below HB7.out X3.out.lt)
    have z3 := Z3.out.cell
    have z3t := Z3.out.thaw
    have hlt : w.heap.size + 2 < w8.heap.size := Z3.out.lt
    have HT6 := Lib.hid ht6
    have hs6 : Hid (w3.heap.size ≤ w6.heap.size ∧ w3.heap.size ≤ w7.heap.size) := ⟨HB5.out.size, HB6.out.size⟩
    have HBB := Lib.hid (HB0.out.trans (HB7.out.mono HB0.out.size))
    clear h5 C6 ht6
    go_wp2_with fail
    refine bodyPost_ret (v := tv (fnOf (initT xs) (.mk k5 n5 p5)) An6 cn6 A6 c6) ?_ rfl ⟨below_put3 HBB.out (by omega) _ _ _, An6, cn6, A6, c6, by rw [HC2.out], ?_⟩
    · simp [results, Tryz.results82, go_sem, z3]
      try first | rfl | exact ⟨rfl, rfl⟩
    · rw [HC2.out]
      refine HT6.out.put3 (fun g hg => ?_) _ _ _
      have h6 := hs6.out
      have h7 := HLT.out
      rcases hg with (h | (h | h) | h) | h
      · exact ⟨.inl (.inl h.1), by omega⟩
      · exact ⟨.inl (.inl h.1), by omega⟩
      · exact ⟨.inl (.inr h.1), by omega⟩
      · exact ⟨.inr (by omega), by omega⟩
      · exact ⟨.inr (by omega), by omega⟩
end Tm
end Go.Proofs.YtifkjngclkklfaaGreatDoor
