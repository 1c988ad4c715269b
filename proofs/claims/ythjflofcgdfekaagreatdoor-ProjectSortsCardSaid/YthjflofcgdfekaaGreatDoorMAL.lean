import Derived.Test.YthjflofcgdfekaaGreatDoorMAK
import Derived.Lib.Strings
import Derived.Lib.Slices
import Derived.Lib.Walk
import Derived.Lib.Bytealg
import Derived.Shelf.SlGeneric
import Derived.Deep.LoopGhost
import Derived.BigRegion
namespace Go.Proofs.YthjflofcgdfekaaGreatDoor
open Go.RowKit Go.Sort
namespace Od
set_option maxHeartbeats 1000000 in
set_option maxRecDepth 100000 in
theorem cmpstr_any (a b : ByteArray) (w : World) :
    Calls Tryz.prog 100 #[.string a, .string b] w fun e w' => e = .returned (.int .i64 (cmpB a b)) ∧ w' = w := by
  unfold cmpB
  go_enter Tryz.func100, Tryz.ntmps100
  go_wp2
  rw [run_callFunc_extern Tryz.func132 (by kernel_rfl) (by kernel_rfl) (by kernel_rfl) (e := Extern.BytealgCompare.compare) (by kernel_rfl), Lib.run_compareString]
  simp only [Result.andThen]
  rw [Oper.upon_value]
  go_wp2
  go_ret
  exact ⟨rfl, rfl⟩
set_option maxHeartbeats 1000000 in
theorem compareS_any (a b : ByteArray) (w : World) :
    Calls Tryz.prog 64 #[.string a, .string b] w fun e w' => e = .returned (.int .i64 (cmpB a b)) ∧ w' = w := by
  go_enter Tryz.func64, Tryz.ntmps64
  go_wp2_with (go_at_call 100; refine (cmpstr_any _ _ _).mono ?_; rintro e w' ⟨rfl, rfl⟩)
  go_ret
  exact ⟨rfl, rfl⟩
theorem isNaN_e (a : Int) (w : World) : Calls Tryz.prog 102 #[.int .i64 a] w fun e w' => e = .returned (.bool false) ∧ w' = w := by
  go_enter Tryz.func102, Tryz.ntmps102
  go_wp2
  go_ret
  exact ⟨by simp, rfl⟩
set_option maxHeartbeats 1000000 in
theorem compareE_any (a b : Int) (w : World) : Calls Tryz.prog 66 #[.int .i64 a, .int .i64 b] w fun e w' => e = .returned (.int .i64 (Sb.sgn a b)) ∧ w' = w := by
  go_enter Tryz.func66, Tryz.ntmps66
  go_wp2_with (go_at_call 102; refine (isNaN_e _ _).mono ?_; rintro e w' ⟨rfl, rfl⟩)
  all_goals
    go_ret
    refine ⟨Sb.ri ?_, rfl⟩
    unfold Sb.sgn
    (repeat' split) <;> omega
end Od
namespace Sd
structure De where
  m : ByteArray
  a : Int
  c : Int
  t : Nat
instance : Inhabited De := ⟨⟨ByteArray.empty, 0, 0, 0⟩⟩
def enc3 (e : De) : List Value := [.string e.m, .int .i64 e.a, .int .i64 e.c]
def cf (x y : De) : Int := Od.thenI (Od.cmpB x.m y.m) (Od.thenI (Sb.sgn x.a y.a) (Sb.sgn x.c y.c))
theorem ord : Od.Ord3 cf := Od.ord_then (Od.ord_map De.m Od.ord_bytes) (Od.ord_then (Od.ord_map De.a Od.ord_int) (Od.ord_map De.c Od.ord_int))
set_option maxHeartbeats 2000000 in
theorem or_any (b : Nat) (x y z : Int) (w : World) (h0 : w.cell? ⟨b, 0, none⟩ = some (.int .i64 x)) (h1 : w.cell? ⟨b, 1, none⟩ = some (.int .i64 y)) (h2 : w.cell? ⟨b, 2, none⟩ = some (.int .i64 z)) :
    Calls Tryz.prog 63 #[.slice (some ⟨b, 0, none⟩) 3 3] w fun e w' => e = .returned (.int .i64 (Od.thenI x (Od.thenI y z))) ∧ w' = w := by
  by_cases hx : x = 0
  · subst hx
    have e1 : Od.thenI 0 (Od.thenI y z) = Od.thenI y z := if_pos rfl
    rw [e1]
    by_cases hy : y = 0
    · subst hy
      have e2 : Od.thenI 0 z = z := if_pos rfl
      rw [e2]
      by_cases hz : z = 0
      · subst hz
        go_enter Tryz.func63, Tryz.ntmps63
        go_wp2_with fail
        refine wp_loop_rounds 4 ?_
        repeat (rw [rounds_succ]; go_wp2)
        go_ret
        exact ⟨rfl, rfl⟩
      · have g : (z == 0) = false := by simpa using hz
        go_enter Tryz.func63, Tryz.ntmps63
        go_wp2_with fail
        refine wp_loop_rounds 4 ?_
        repeat (rw [rounds_succ]; go_wp2)
        go_ret
        exact ⟨rfl, rfl⟩
    · have e2 : Od.thenI y z = y := if_neg hy
      rw [e2]
      have g : (y == 0) = false := by simpa using hy
      go_enter Tryz.func63, Tryz.ntmps63
      go_wp2_with fail
      refine wp_loop_rounds 4 ?_
      repeat (rw [rounds_succ]; go_wp2)
      go_ret
      exact ⟨rfl, rfl⟩
  · have e1 : Od.thenI x (Od.thenI y z) = x := if_neg hx
    rw [e1]
    have g : (x == 0) = false := by simpa using hx
    go_enter Tryz.func63, Tryz.ntmps63
    go_wp2_with fail
    refine wp_loop_rounds 4 ?_
    repeat (rw [rounds_succ]; go_wp2)
    go_ret
    exact ⟨rfl, rfl⟩
set_option maxHeartbeats 2000000 in
set_option maxRecDepth 100000 in
theorem lt23_any (x y : De) (w : World) : Calls Tryz.prog 62 #[.agg #[.string x.m, .int .i64 x.a, .int .i64 x.c], .agg #[.string y.m, .int .i64 y.a, .int .i64 y.c]] w fun e w' => e = .returned (.int .i64 (cf x y)) ∧ ∃ q os, w' = Go.Sort.grow (w.drewN q) os := by
  obtain ⟨r, hr⟩ : ∃ r, r = cf x y := ⟨_, rfl⟩
  rw [← hr]
  go_enter Tryz.func62, Tryz.ntmps62
  go_wp2_with fail
  have rx : RowB ((w.alloc (.cells #[.string x.m, .int .i64 x.a, .int .i64 x.c] 75)).alloc (.cells #[.string y.m, .int .i64 y.a, .int .i64 y.c] 75)) w.heap.size 75 #[.string x.m, .int .i64 x.a, .int .i64 x.c] := (RowB.new _ _ _).alloc _
  have ry : RowB ((w.alloc (.cells #[.string x.m, .int .i64 x.a, .int .i64 x.c] 75)).alloc (.cells #[.string y.m, .int .i64 y.a, .int .i64 y.c] 75)) (w.heap.size + 1) 75 #[.string y.m, .int .i64 y.a, .int .i64 y.c] := by
    have := RowB.new (w.alloc (.cells #[.string x.m, .int .i64 x.a, .int .i64 x.c] 75)) 75 #[.string y.m, .int .i64 y.a, .int .i64 y.c]
    simpa using this
  have c0 := rx.cell 0
  have c1 := rx.cell 1
  have c2 := rx.cell 2
  have c3 := ry.cell 0
  have c4 := ry.cell 1
  have c5 := ry.cell 2
  generalize hW : (w.alloc (.cells #[.string x.m, .int .i64 x.a, .int .i64 x.c] 75)).alloc (.cells #[.string y.m, .int .i64 y.a, .int .i64 y.c] 75) = W at c0 c1 c2 c3 c4 c5 ⊢
  have HW := Lib.hid hW
  clear hW rx ry
  have d0 : W.drew.cell? ⟨w.heap.size, 0, none⟩ = some (.string x.m) := c0
  have d1 : W.drew.cell? ⟨w.heap.size, 1, none⟩ = some (.int .i64 x.a) := c1
  have d2 : W.drew.cell? ⟨w.heap.size, 2, none⟩ = some (.int .i64 x.c) := c2
  have d3 : W.drew.cell? ⟨w.heap.size + 1, 0, none⟩ = some (.string y.m) := c3
  have d4 : W.drew.cell? ⟨w.heap.size + 1, 1, none⟩ = some (.int .i64 y.a) := c4
  have d5 : W.drew.cell? ⟨w.heap.size + 1, 2, none⟩ = some (.int .i64 y.c) := c5
  refine wp_region_still_tail 19 (by kernel_rfl) (by kernel_rfl) ?_
  simp only [List.take_succ_cons, List.take_zero, List.drop_succ_cons, List.drop_zero]
  change wpStill _ _ W.drew _ _ _
  generalize hW2 : W.drew = W2 at d0 d1 d2 d3 d4 d5 ⊢
  have HW2 := Lib.hid hW2
  have RN := RowB.new W 3 #[.int .i64 (Od.cmpB x.m y.m), .int .i64 (Sb.sgn x.a y.a), .int .i64 (Sb.sgn x.c y.c)]
  have q := or_any W.heap.size (Od.cmpB x.m y.m) (Sb.sgn x.a y.a) (Sb.sgn x.c y.c) (W.alloc (.cells #[.int .i64 (Od.cmpB x.m y.m), .int .i64 (Sb.sgn x.a y.a), .int .i64 (Sb.sgn x.c y.c)] 3)).drew (RN.cell 0) (RN.cell 1) (RN.cell 2)
  change Calls Tryz.prog 63 _ _ fun e w' => e = .returned (.int .i64 (cf x y)) ∧ w' = _ at q
  rw [← hr] at q
  clear hr RN
  clear hW2 c0 c1 c2 c3 c4 c5
  still_step
  still_step
  still_step
  still_step
  still_step
  still_step
  still_call (Od.compareS_any _ _ _)
  still_step
  still_step
  still_step
  still_step
  still_step
  still_step
  still_call (Sb.compare_any _ _ _)
  still_step
  still_step
  still_step
  still_step
  still_call (Od.compareE_any _ _ _)
  refine wpStill_nil ?_
  go_wp2_with (go_at_call 63; refine q.mono ?_; rintro e w' ⟨rfl, rfl⟩)
  go_ret
  refine ⟨rfl, 1, #[.cells #[.string x.m, .int .i64 x.a, .int .i64 x.c] 75] ++ #[.cells #[.string y.m, .int .i64 y.a, .int .i64 y.c] 75] ++ #[.cells #[.int .i64 (Od.cmpB x.m y.m), .int .i64 (Sb.sgn x.a y.a), .int .i64 (Sb.sgn x.c y.c)] 3], ?_⟩
  rw [← HW.out, alloc_eq_grow, alloc_eq_grow, alloc_eq_grow, grow_grow, grow_grow]
  rfl
end Sd
end Go.Proofs.YthjflofcgdfekaaGreatDoor
namespace Go.Proofs.YthjflofcgdfekaaGreatDoor
open Go.RowKit Go.Sort Go.Proofs Go.Shelf
namespace Sd
def ins20_ren : Go.Shelf.Ren := ⟨fun | 20 => 130 | n => n, fun | 24 => 75 | 22 => 68 | 3 => 3 | 25 => 139 | 4 => 4 | 0 => 0 | n => n, fun | n => n⟩
theorem ins20 : Go.Proofs.SlLaysF0.n20 Tryz.prog ins20_ren := {
  mixed := by kernel_rfl
  f20 := ⟨Tryz.f130.name, by kernel_rfl, Tryz.func130.trans (congrArg some (by kernel_rfl))⟩
  t0 := Tryz.underlying0
  a0 := Tryz.isAgg0
  z0 := Tryz.sizeOf0
  v0 := Tryz.zeroValue0
  t3 := Tryz.underlying3
  a3 := Tryz.isAgg3
  z3 := Tryz.sizeOf3
  v3 := Tryz.zeroValue3
  t4 := Tryz.underlying4
  a4 := Tryz.isAgg4
  z4 := Tryz.sizeOf4
  v4 := Tryz.zeroValue4
  t22 := Tryz.underlying68
  a22 := Tryz.isAgg68
  z22 := Tryz.sizeOf68
  v22 := Tryz.zeroValue68
  t25 := Tryz.underlying139
  a25 := Tryz.isAgg139
  z25 := Tryz.sizeOf139
  v25 := Tryz.zeroValue139 }
theorem enter62 : ∀ args w, (callFunc 62 args).run Tryz.prog w = .ok (.enter 62 args) w := enters_of Tryz.func62 (by kernel_rfl) rfl
theorem cmpLays23 (blk off size : Nat) (w : World) : CmpLays Tryz.prog 62 #[] enc3 3 cf blk off size w :=
  fun _ _ _ _ x y => lt23_any x y _
theorem enc3_len (x : De) : (enc3 x).length = 3 := rfl
theorem enc3_one (x : De) : ∀ v ∈ enc3 x, v.oneCell' = true := by
  intro v hv
  simp [enc3] at hv
  rcases hv with rfl | rfl | rfl <;> rfl
theorem ltcf (x y : De) : ltOf cf x y = decide (cf x y < 0) := rfl
theorem swocf : SWO (ltOf cf) where
  irrefl x := by
    have := ord.neg x x
    rw [ltcf, decide_eq_false_iff_not]
    omega
  trans x y z h1 h2 := by
    have := ord.tr x y z
    rw [ltcf] at *
    simp only [decide_eq_true_iff] at *
    omega
  ntrans x y z h1 h2 := by
    have := ord.tr z y x
    have := ord.neg x y
    have := ord.neg y z
    have := ord.neg x z
    rw [ltcf] at *
    simp only [decide_eq_false_iff_not] at *
    omega
def LT (x y : De) : Bool := decide (cf x y < 0 ∨ (cf x y = 0 ∧ x.t < y.t))
theorem swoLT : SWO LT where
  irrefl x := by
    have := ord.neg x x
    unfold LT
    simp only [decide_eq_false_iff_not]
    omega
  trans x y z h1 h2 := by
    have := ord.tr x y z
    unfold LT at *
    simp only [decide_eq_true_iff] at *
    omega
  ntrans x y z h1 h2 := by
    have := ord.tr z y x
    have := ord.neg x y
    have := ord.neg y z
    have := ord.neg x z
    unfold LT at *
    simp only [decide_eq_false_iff_not] at *
    omega
abbrev at_ (d : Array De) : Nat → De := fun x => d[x]!
def Tied (d : Array De) : Prop := ∀ i j, i < j → j < d.size → cf (at_ d i) (at_ d j) = 0 → (at_ d i).t < (at_ d j).t
theorem cmp_yes {x y : De} (h : cf x y < 0) : LT x y = true := by
  unfold LT
  simp only [decide_eq_true_iff]
  exact .inl h
theorem cmp_no {d : Array De} (hT : Tied d) {i j : Nat} (hij : i < j) (hj : j < d.size) (h : decide (cf d[j]! d[i]! < 0) = false) : LT (at_ d j) (at_ d i) = false := by
  have h2 := hT i j hij hj
  have := ord.neg (at_ d i) (at_ d j)
  have h1 : decide (cf (at_ d j) (at_ d i) < 0) = false := h
  unfold LT
  simp only [decide_eq_false_iff_not] at *
  generalize at_ d i = p at *
  generalize at_ d j = q at *
  omega
theorem tied_lt {d : Array De} (hT : Tied d) {i j : Nat} (hij : i < j) (hj : j < d.size) (h : LT (at_ d j) (at_ d i) = true) : cf (at_ d j) (at_ d i) < 0 := by
  have h2 := hT i j hij hj
  have := ord.neg (at_ d i) (at_ d j)
  unfold LT at h
  simp only [decide_eq_true_iff] at h
  omega
theorem swp_tied {d : Array De} (hT : Tied d) {j : Nat} (hj : j + 1 < d.size) (h : cf (at_ d (j + 1)) (at_ d j) < 0) : Tied (swp d (j + 1) j) := by
  intro x y hxy hy he
  have hs : (swp d (j + 1) j).size = d.size := by simp [swp]
  rw [hs] at hy
  have e : ∀ k, at_ (swp d (j + 1) j) k = if k = j then at_ d (j + 1) else if k = j + 1 then at_ d j else at_ d k := fun k => swp_get d hj (by omega) k
  rw [e, e] at he ⊢
  by_cases x1 : x = j
  · subst x1
    rw [if_pos rfl] at he ⊢
    by_cases y1 : y = x + 1
    · subst y1
      rw [if_neg (by omega), if_pos rfl] at he
      omega
    · rw [if_neg (by omega), if_neg y1] at he ⊢
      exact hT _ _ (by omega) hy he
  · rw [if_neg x1] at he ⊢
    by_cases x2 : x = j + 1
    · subst x2
      rw [if_pos rfl, if_neg (by omega), if_neg (by omega)] at he
      rw [if_pos rfl, if_neg (by omega), if_neg (by omega)]
      exact hT _ _ (by omega) hy he
    · rw [if_neg x2] at he ⊢
      by_cases y1 : y = j
      · subst y1
        rw [if_pos rfl] at he ⊢
        exact hT _ _ (by omega) hj he
      · rw [if_neg y1] at he ⊢
        by_cases y2 : y = j + 1
        · subst y2
          rw [if_pos rfl] at he ⊢
          exact hT _ _ (by omega) (by omega) he
        · rw [if_neg y2] at he ⊢
          exact hT _ _ hxy hy he
theorem insInner_tied (a : Nat) : ∀ (j : Nat) (d : Array De), j < d.size → Tied d → Tied (insInner (ltOf cf) a j d) ∧ (insInner (ltOf cf) a j d).size = d.size
  | 0, d, _, h => ⟨h, rfl⟩
  | j + 1, d, hj, h => by
    rw [insInner]
    split
    · rename_i hc
      simp only [Bool.and_eq_true, decide_eq_true_eq] at hc
      have h1 := hc.2
      rw [ltcf, decide_eq_true_iff] at h1
      have hs : (swp d (j + 1) j).size = d.size := by simp [swp]
      obtain ⟨r1, r2⟩ := insInner_tied a j (swp d (j + 1) j) (by rw [hs]; omega) (swp_tied h hj h1)
      exact ⟨r1, r2.trans hs⟩
    · exact ⟨h, rfl⟩
theorem insOuter_tied (a b : Nat) : ∀ (n i : Nat) (d : Array De), b - i ≤ n → b ≤ d.size → Tied d → Tied (insOuter (ltOf cf) a b i d)
  | 0, i, d, hn, hb, h => by
    rw [insOuter, if_neg (by omega)]
    exact h
  | n + 1, i, d, hn, hb, h => by
    rw [insOuter]
    split
    · obtain ⟨r1, r2⟩ := insInner_tied a i d (by omega) h
      exact insOuter_tied a b n (i + 1) _ (by omega) (by rw [r2]; exact hb) r1
    · exact h
end Sd
end Go.Proofs.YthjflofcgdfekaaGreatDoor
namespace Go.Proofs.YthjflofcgdfekaaGreatDoor
open Go.RowKit Go.Sort Go.Proofs Go.Shelf
namespace Sd
def srg (d : Nat → De) (a b n x : Nat) : De := if a ≤ x ∧ x < a + n then d (x - a + b) else if b ≤ x ∧ x < b + n then d (x - b + a) else d x
def rot (d : Nat → De) (a m b x : Nat) : De := if a ≤ x ∧ x < b then (if x < a + (b - m) then d (x + m - a) else d (x - (b - m))) else d x
theorem swk_cells {w0 W : World} {blk off : Nat} {d0 dk : Array De} (S : SWK enc3 3 w0 blk off dk W) (R : RowK enc3 3 w0 blk off d0) (hs : dk.size = d0.size) (i : Nat) (hi : i < dk.size) :
    (W.cell? ⟨blk, off + i * 3, none⟩ = some (.string dk[i]!.m) ∧ W.cell? ⟨blk, off + i * 3 + 1, none⟩ = some (.int .i64 dk[i]!.a) ∧ W.cell? ⟨blk, off + i * 3 + 2, none⟩ = some (.int .i64 dk[i]!.c)) ∧
      W.frozen? ⟨blk, off + i * 3, none⟩ = false ∧ W.frozen? ⟨blk, off + i * 3 + 1, none⟩ = false ∧ W.frozen? ⟨blk, off + i * 3 + 2, none⟩ = false := by
  have h := S.holds R.hblk R.hH hs
  have h0 := h.cell (c := 0) hi (by decide)
  have h1 := h.cell (c := 1) hi (by decide)
  have h2 := h.cell (c := 2) hi (by decide)
  exact ⟨⟨h0.1, h1.1, h2.1⟩, h0.2, h1.2, h2.2⟩
def sw6 (w : World) (blk p q : Nat) (X Y : De) : World := ((((((w.setCell ⟨blk, p, none⟩ (.string Y.m)).setCell ⟨blk, p + 1, none⟩ (.int .i64 Y.a)).setCell ⟨blk, p + 2, none⟩ (.int .i64 Y.c)).setCell ⟨blk, q, none⟩ (.string X.m)).setCell ⟨blk, q + 1, none⟩ (.int .i64 X.a)).setCell ⟨blk, q + 2, none⟩ (.int .i64 X.c)).drew
theorem drew_set (w : World) (p : Addr) (v : Value) : (w.setCell p v).drew = w.drew.setCell p v := rfl
theorem swk_sw6 {w0 W : World} {blk off : Nat} {d0 dk : Array De} (S : SWK enc3 3 w0 blk off dk W) (R : RowK enc3 3 w0 blk off d0) (i j : Nat) (hi : i < dk.size) (hj : j < dk.size) :
    SWK enc3 3 w0 blk off (swp dk i j) (sw6 W blk (off + i * 3) (off + j * 3) dk[i]! dk[j]!) := by
  have h := S.swapped R i j hi hj
  have e : sw6 W blk (off + i * 3) (off + j * 3) dk[i]! dk[j]! = (W.drew.setCells blk (off + i * 3) (enc3 dk[j]!)).setCells blk (off + j * 3) (enc3 dk[i]!) := by
    unfold sw6 enc3
    simp only [drew_set, World.setCells]
  rw [e]
  exact h
theorem swp_sw {d dk : Array De} {lo hi i j : Nat} (h : PermIn lo hi d dk) (hi1 : lo ≤ i) (hi2 : i < hi) (hj1 : lo ≤ j) (hj2 : j < hi) (hh : hi ≤ d.size) : PermIn lo hi d (swp dk i j) :=
  permIn_trans _ _ _ _ _ h (swp_permIn dk lo hi i j hi1 hi2 hj1 hj2 (by rw [h.1]; exact hh))
theorem srg_step {d dk : Array De} {a b n i : Nat} (h : ∀ x, dk[x]! = srg (at_ d) a b i x) (hab : a + n ≤ b) (hi : i < n) (hb : b + n ≤ dk.size) (x : Nat) : (swp dk (a + i) (b + i))[x]! = srg (at_ d) a b (i + 1) x := by
  rw [swp_get dk (by omega) (by omega), h, h, h]
  unfold srg at_
  (repeat' split) <;> first | omega | rfl | (congr 1; omega)
set_option maxHeartbeats 4000000 in
set_option maxRecDepth 1000000 in
theorem swapRange_any (blk off cap a b n : Nat) (g : Nat) (cb : Array Value) (d0 d : Array De) (w0 w : World)
    (R : RowK enc3 3 w0 blk off d0) (hs : d0.size = d.size) (S : SWK enc3 3 w0 blk off d w) (hab : a + n ≤ b) (hb : b + n ≤ d.size) (hsz : d.size < 4611686018427387904) (lo hi : Nat) (hlo : lo ≤ a) (hhi : b + n ≤ hi) (hhs : hi ≤ d.size) :
    Calls Tryz.prog 211 #[.slice (some ⟨blk, off, none⟩) d.size cap, .int .i64 a, .int .i64 b, .int .i64 n, .func (.func g) #[] cb] w fun e w' => e = .returned (.tuple #[]) ∧ ∃ d', SWK enc3 3 w0 blk off d' w' ∧ d'.size = d.size ∧ PermIn lo hi d d' ∧ ∀ x, d'[x]! = srg (at_ d) a b n x := by
  have S0 : Aside (SWK enc3 3 w0 blk off d w) := S
  clear S
  go_enter Tryz.func211, Tryz.ntmps211
  go_wp2_with fail
  go_loopg [10] n (fun kx s10 wr => ∃ (i : Nat) (dk : Array De), s10 = .int .i64 i ∧ i ≤ n ∧ n - i ≤ kx ∧ dk.size = d.size ∧ Aside (SWK enc3 3 w0 blk off dk wr) ∧ Hid (PermIn lo hi d dk) ∧ Hid (∀ x, dk[x]! = srg (at_ d) a b i x))
  case atStart => exact ⟨0, d, rfl, by omega, by omega, rfl, S0, permIn_refl _ _ _, fun x => by unfold srg; rw [if_neg (by omega), if_neg (by omega)]⟩
  case round =>
    clear S0
    obtain ⟨i, dk, rfl, hin, hkx, hds, S1, HP, HE⟩ := hrel
    by_cases hlt : i < n
    · have h1 : (i : Int) < (n : Int) := by omega
      have ea : ((a : Int) + (i : Int)).toNat = a + i := by omega
      have eb : ((b : Int) + (i : Int)).toNat = b + i := by omega
      have pa : (0 : Int) ≤ (a : Int) + (i : Int) := by omega
      have pb : (0 : Int) ≤ (b : Int) + (i : Int) := by omega
      have ba : (a : Int) + (i : Int) < (d.size : Int) := by omega
      have bb : (b : Int) + (i : Int) < (d.size : Int) := by omega
      have ra : IntKind.i64.wrap ((a : Int) + (i : Int)) = (a : Int) + (i : Int) := by rw [IntKind.wrap_i64]; omega
      have rb : IntKind.i64.wrap ((b : Int) + (i : Int)) = (b : Int) + (i : Int) := by rw [IntKind.wrap_i64]; omega
      have S2 : Aside _ := swk_sw6 S1.out R (a + i) (b + i) (by omega) (by omega)
      obtain ⟨⟨x0, x1, xc⟩, x3, x4, vc⟩ := swk_cells S1.out R (by omega) (a + i) (by omega)
      obtain ⟨⟨y0, y1, yc⟩, y3, y4, uc⟩ := swk_cells S1.out R (by omega) (b + i) (by omega)
      obtain ⟨X, hX⟩ : ∃ X, X = dk[a + i]! := ⟨_, rfl⟩
      obtain ⟨Y, hY⟩ : ∃ Y, Y = dk[b + i]! := ⟨_, rfl⟩
      rw [← hX] at x0 x1 xc
      rw [← hY] at y0 y1 yc
      rw [← hX, ← hY] at S2
      obtain ⟨W', hW'⟩ : ∃ W', W' = sw6 wr blk (off + (a + i) * 3) (off + (b + i) * 3) X Y := ⟨_, rfl⟩
      rw [← hW'] at S2
      have EW := Lib.hid hW'
      clear S1 hX hY hW'
      go_wp2_with fail
      go_big_region
      change Exit.inBlock 1 _ Exit.normal _ (sw6 wr blk (off + (a + i) * 3) (off + (b + i) * 3) X Y)
      rw [← EW.out]
      clear x0 x1 x3 x4 y0 y1 y3 y4 xc yc vc uc EW
      go_wp2
      go_roundg (n - (i + 1))
      case measure => omega
      case rel => exact ⟨i + 1, swp dk (a + i) (b + i), by go_num, by omega, by omega, by rw [size_swp]; exact hds, S2, swp_sw HP.out (by omega) (by omega) (by omega) (by omega) hhs, srg_step HE.out hab hlt (by omega)⟩
    · obtain rfl : i = n := by omega
      go_wp2
      go_end0
      exact ⟨rfl, dk, S1.out, hds, HP.out, HE.out⟩
end Sd
end Go.Proofs.YthjflofcgdfekaaGreatDoor
namespace Go.Proofs.YthjflofcgdfekaaGreatDoor
open Go.RowKit Go.Sort Go.Proofs Go.Shelf
namespace Sd
theorem rot_more {d : Nat → De} {d2 : Nat → De} {m i j : Nat} (hj : 0 < j) (hij : j < i) (hi : i ≤ m) (h : ∀ x, d2 x = srg d (m - i) m j x) (x : Nat) : rot d2 (m - (i - j)) m (m + j) x = rot d (m - i) m (m + j) x := by
  unfold rot
  simp only [h]
  unfold srg
  (repeat' split) <;> first | omega | rfl | (congr 1; omega)
theorem rot_less {d : Nat → De} {d2 : Nat → De} {m i j : Nat} (h0 : 0 < i) (hij : i < j) (hi : i ≤ m) (h : ∀ x, d2 x = srg d (m - i) (m + j - i) i x) (x : Nat) : rot d2 (m - i) m (m + (j - i)) x = rot d (m - i) m (m + j) x := by
  unfold rot
  simp only [h]
  unfold srg
  (repeat' split) <;> first | omega | rfl | (congr 1; omega)
theorem rot_one {d : Nat → De} {d2 : Nat → De} {m i : Nat} (h0 : 0 < i) (hi : i ≤ m) (h : ∀ x, d2 x = srg d (m - i) m i x) (x : Nat) : d2 x = rot d (m - i) m (m + i) x := by
  unfold rot
  simp only [h]
  unfold srg
  (repeat' split) <;> first | omega | rfl | (congr 1; omega)
set_option maxHeartbeats 4000000 in
set_option maxRecDepth 1000000 in
theorem rotate_any (blk off cap a m b : Nat) (g : Nat) (cb : Array Value) (d0 d : Array De) (w0 w : World)
    (R : RowK enc3 3 w0 blk off d0) (hs : d0.size = d.size) (S : SWK enc3 3 w0 blk off d w) (ham : a < m) (hmb : m < b) (hb : b ≤ d.size) (hsz : d.size < 4611686018427387904) :
    Calls Tryz.prog 164 #[.slice (some ⟨blk, off, none⟩) d.size cap, .int .i64 a, .int .i64 m, .int .i64 b, .func (.func g) #[] cb] w fun e w' => e = .returned (.tuple #[]) ∧ ∃ d', SWK enc3 3 w0 blk off d' w' ∧ d'.size = d.size ∧ PermIn a b d d' ∧ ∀ x, d'[x]! = rot (at_ d) a m b x := by
  have S0 : Aside (SWK enc3 3 w0 blk off d w) := S
  clear S
  go_enter Tryz.func164, Tryz.ntmps164
  go_wp2_with fail
  go_loopg [10, 11] (m - a + (b - m)) (fun kx s10 s11 wr => ∃ (i j : Nat) (dk : Array De), s10 = .int .i64 i ∧ s11 = .int .i64 j ∧ 0 < i ∧ 0 < j ∧ i ≤ m - a ∧ j ≤ b - m ∧ i + j ≤ kx ∧ dk.size = d.size ∧ Aside (SWK enc3 3 w0 blk off dk wr) ∧ Hid (PermIn a b d dk) ∧ Hid (∀ x, rot (at_ dk) (m - i) m (m + j) x = rot (at_ d) a m b x))
  case atStart => exact ⟨m - a, b - m, d, by go_num, by go_num, by omega, by omega, by omega, by omega, by omega, rfl, S0, permIn_refl _ _ _, fun x => by rw [show m - (m - a) = a by omega, show m + (b - m) = b by omega]⟩
  case round =>
    clear S0
    obtain ⟨i, j, dk, rfl, rfl, hi0, hj0, hia, hjb, hkx, hds, S1, HP, HE⟩ := hrel
    have e1 : ((m - i : Nat) : Int) = (m : Int) - (i : Int) := by omega
    by_cases hij : i = j
    · subst hij
      have c := swapRange_any blk off cap (m - i) m i g cb d0 dk w0 wr R (by omega) S1.out (by omega) (by omega) (by omega) a b (by omega) (by omega) (by omega)
      rw [e1, hds] at c
      have C := Lib.hid c
      clear c S1
      go_wp2_with fail
      refine C.out.mono ?_
      rintro e w2 ⟨rfl, d2, s2, z2, p2, x2⟩
      have S2 : Aside _ := s2
      have P2 := Lib.hid p2
      have X2 := Lib.hid x2
      clear s2 p2 x2
      go_wp2
      go_end0
      exact ⟨rfl, d2, S2.out, by omega, permIn_trans _ _ _ _ _ HP.out P2.out, fun x => by rw [← HE.out]; exact rot_one (d := at_ dk) (d2 := at_ d2) hi0 (by omega) X2.out x⟩
    · have hne : ((i : Int) == (j : Int)) = false := by simpa using (by omega : (i : Int) ≠ (j : Int))
      by_cases hlt : j < i
      · have hlt' : (j : Int) < (i : Int) := by omega
        have c := swapRange_any blk off cap (m - i) m j g cb d0 dk w0 wr R (by omega) S1.out (by omega) (by omega) (by omega) a b (by omega) (by omega) (by omega)
        rw [e1, hds] at c
        have C := Lib.hid c
        have E2 : ((i - j : Nat) : Int) = (i : Int) - (j : Int) := by omega
        clear c S1 hij
        go_wp2_with fail
        refine C.out.mono ?_
        rintro e w2 ⟨rfl, d2, s2, z2, p2, x2⟩
        have S2 : Aside _ := s2
        have P2 := Lib.hid p2
        have X2 := Lib.hid x2
        clear s2 p2 x2
        go_wp2
        go_roundg (i - j + j)
        case measure => omega
        case rel => exact ⟨i - j, j, d2, by rw [E2], rfl, by omega, by omega, by omega, by omega, by omega, by omega, S2, permIn_trans _ _ _ _ _ HP.out P2.out, fun x => by rw [← HE.out]; exact rot_more (d := at_ dk) (d2 := at_ d2) hj0 hlt (by omega) X2.out x⟩
      · have hlt' : (i : Int) < (j : Int) := by omega
        have hd : decide ((j : Int) < (i : Int)) = false := by simp; omega
        have c := swapRange_any blk off cap (m - i) (m + j - i) i g cb d0 dk w0 wr R (by omega) S1.out (by omega) (by omega) (by omega) a b (by omega) (by omega) (by omega)
        rw [e1, hds, show ((m + j - i : Nat) : Int) = (m : Int) + (j : Int) - (i : Int) by omega] at c
        have C := Lib.hid c
        have E2 : ((j - i : Nat) : Int) = (j : Int) - (i : Int) := by omega
        clear c S1 hij hlt
        go_wp2_with fail
        refine C.out.mono ?_
        rintro e w2 ⟨rfl, d2, s2, z2, p2, x2⟩
        have S2 : Aside _ := s2
        have P2 := Lib.hid p2
        have X2 := Lib.hid x2
        clear s2 p2 x2
        go_wp2
        go_roundg (i + (j - i))
        case measure => omega
        case rel => exact ⟨i, j - i, d2, rfl, by rw [E2], by omega, by omega, by omega, by omega, by omega, by omega, S2, permIn_trans _ _ _ _ _ HP.out P2.out, fun x => by rw [← HE.out]; exact rot_less (d := at_ dk) (d2 := at_ d2) hi0 (by omega) (by omega) X2.out x⟩
end Sd
end Go.Proofs.YthjflofcgdfekaaGreatDoor
