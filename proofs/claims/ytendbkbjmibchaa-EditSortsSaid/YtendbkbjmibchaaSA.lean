/- Contracts: cmp.Compare, cmp.Or, the comparison that edit.Sort hands over; edits as elements of three cells. -/
import Derived.Test.YtendbkbjmibchaaIV
import Derived.Shelf.SlSortCmp.KitK
import Derived.Sort.LotA
import Derived.StillTailTactics
namespace Go.Proofs.Ytendbkbjmibchaa
open Go.RowKit Go.Sort

instance : Inhabited Ed := ⟨⟨0, 0, ⟨#[]⟩⟩⟩
def enc3 (e : Ed) : List Value := [.int .i64 e.f, .int .i64 e.t, .string e.x]
def sgn (a b : Int) : Int := if a < b then -1 else if b < a then 1 else 0
def cf (x y : Ed) : Int := if sgn x.f y.f ≠ 0 then sgn x.f y.f else sgn x.t y.t

theorem isNaN_any (a : Int) (w : World) : Calls Try.prog 67 #[.int .i64 a] w fun e w' => e = .returned (.bool false) ∧ w' = w := by
  go_enter Try.func67, Try.ntmps67
  go_wp2
  go_ret
  exact ⟨by simp, rfl⟩
set_option maxHeartbeats 1000000 in
theorem compare_any (a b : Int) (w : World) : Calls Try.prog 59 #[.int .i64 a, .int .i64 b] w fun e w' => e = .returned (.int .i64 (sgn a b)) ∧ w' = w := by
  go_enter Try.func59, Try.ntmps59
  go_wp2_with (go_at_call 67; refine (isNaN_any _ _).mono ?_; rintro e w' ⟨rfl, rfl⟩)
  all_goals
    go_ret
    refine ⟨ri ?_, rfl⟩
    unfold sgn
    (repeat' split) <;> omega

set_option maxHeartbeats 1000000 in
theorem or_any (b : Nat) (x y : Int) (w : World) (h0 : w.cell? ⟨b, 0, none⟩ = some (.int .i64 x)) (h1 : w.cell? ⟨b, 1, none⟩ = some (.int .i64 y)) :
    Calls Try.prog 58 #[.slice (some ⟨b, 0, none⟩) 2 2] w fun e w' => e = .returned (.int .i64 (if x ≠ 0 then x else y)) ∧ w' = w := by
  by_cases hx : x = 0
  · subst hx
    rw [if_neg (by simp)]
    by_cases hy : y = 0
    · subst hy
      go_enter Try.func58, Try.ntmps58
      go_wp2_with fail
      refine wp_loop_rounds 3 ?_
      repeat (rw [rounds_succ]; go_wp2)
      go_ret
      exact ⟨rfl, rfl⟩
    · have g : (y == 0) = false := by simpa using hy
      go_enter Try.func58, Try.ntmps58
      go_wp2_with fail
      refine wp_loop_rounds 3 ?_
      repeat (rw [rounds_succ]; go_wp2)
      go_ret
      exact ⟨rfl, rfl⟩
  · rw [if_pos hx]
    have g : (x == 0) = false := by simpa using hx
    go_enter Try.func58, Try.ntmps58
    go_wp2_with fail
    refine wp_loop_rounds 3 ?_
    repeat (rw [rounds_succ]; go_wp2)
    go_ret
    exact ⟨rfl, rfl⟩

set_option maxHeartbeats 2000000 in
set_option maxRecDepth 100000 in
theorem lt57_any (x y : Ed) (w : World) : Calls Try.prog 57 #[.agg #[.int .i64 x.f, .int .i64 x.t, .string x.x], .agg #[.int .i64 y.f, .int .i64 y.t, .string y.x]] w fun e w' => e = .returned (.int .i64 (cf x y)) ∧ ∃ q os, w' = Go.Sort.grow (w.drewN q) os := by
  obtain ⟨r, hr⟩ : ∃ r, r = cf x y := ⟨_, rfl⟩
  rw [← hr]
  go_enter Try.func57, Try.ntmps57
  go_wp2_with fail
  have c0 : ((w.alloc (.cells #[.int .i64 x.f, .int .i64 x.t, .string x.x] 68)).alloc (.cells #[.int .i64 y.f, .int .i64 y.t, .string y.x] 68)).cell? ⟨w.heap.size, 0, none⟩ = some (.int .i64 x.f) := ((RowB.new _ _ _).alloc _).cell 0
  have c1 : ((w.alloc (.cells #[.int .i64 x.f, .int .i64 x.t, .string x.x] 68)).alloc (.cells #[.int .i64 y.f, .int .i64 y.t, .string y.x] 68)).cell? ⟨w.heap.size, 1, none⟩ = some (.int .i64 x.t) := ((RowB.new _ _ _).alloc _).cell 1
  have c2 : ((w.alloc (.cells #[.int .i64 x.f, .int .i64 x.t, .string x.x] 68)).alloc (.cells #[.int .i64 y.f, .int .i64 y.t, .string y.x] 68)).cell? ⟨w.heap.size + 1, 0, none⟩ = some (.int .i64 y.f) := by simp [go_sem]
  have c3 : ((w.alloc (.cells #[.int .i64 x.f, .int .i64 x.t, .string x.x] 68)).alloc (.cells #[.int .i64 y.f, .int .i64 y.t, .string y.x] 68)).cell? ⟨w.heap.size + 1, 1, none⟩ = some (.int .i64 y.t) := by simp [go_sem]
  generalize hW : (w.alloc (.cells #[.int .i64 x.f, .int .i64 x.t, .string x.x] 68)).alloc (.cells #[.int .i64 y.f, .int .i64 y.t, .string y.x] 68) = W at c0 c1 c2 c3 ⊢
  have HW := Lib.hid hW
  clear hW
  have d0 : W.drew.cell? ⟨w.heap.size, 0, none⟩ = some (.int .i64 x.f) := c0
  have d1 : W.drew.cell? ⟨w.heap.size, 1, none⟩ = some (.int .i64 x.t) := c1
  have d2 : W.drew.cell? ⟨w.heap.size + 1, 0, none⟩ = some (.int .i64 y.f) := c2
  have d3 : W.drew.cell? ⟨w.heap.size + 1, 1, none⟩ = some (.int .i64 y.t) := c3
  refine wp_region_still_tail 10 (by kernel_rfl) (by kernel_rfl) ?_
  simp only [List.take_succ_cons, List.take_zero, List.drop_succ_cons, List.drop_zero]
  change wpStill _ _ W.drew _ _ _
  generalize hW2 : W.drew = W2 at d0 d1 d2 d3 ⊢
  have HW2 := Lib.hid hW2
  have q := or_any W.heap.size (sgn x.f y.f) (sgn x.t y.t) (W.alloc (.cells #[.int .i64 (sgn x.f y.f), .int .i64 (sgn x.t y.t)] 3)).drew ((RowB.new W 3 #[.int .i64 (sgn x.f y.f), .int .i64 (sgn x.t y.t)]).cell 0) ((RowB.new W 3 #[.int .i64 (sgn x.f y.f), .int .i64 (sgn x.t y.t)]).cell 1)
  change Calls Try.prog 58 _ _ fun e w' => e = .returned (.int .i64 (cf x y)) ∧ w' = _ at q
  rw [← hr] at q
  clear hr
  clear hW2 c0 c1 c2 c3
  still_step
  still_step
  still_step
  still_step
  still_call (compare_any _ _ _)
  still_step
  still_step
  still_step
  still_step
  still_call (compare_any _ _ _)
  refine wpStill_nil ?_
  go_wp2_with (go_at_call 58; refine q.mono ?_; rintro e w' ⟨rfl, rfl⟩)
  go_ret
  refine ⟨rfl, 1, #[.cells #[.int .i64 x.f, .int .i64 x.t, .string x.x] 68] ++ #[.cells #[.int .i64 y.f, .int .i64 y.t, .string y.x] 68] ++ #[.cells #[.int .i64 (sgn x.f y.f), .int .i64 (sgn x.t y.t)] 3], ?_⟩
  rw [← HW.out, alloc_eq_grow, alloc_eq_grow, alloc_eq_grow, grow_grow, grow_grow]
  rfl
end Go.Proofs.Ytendbkbjmibchaa
