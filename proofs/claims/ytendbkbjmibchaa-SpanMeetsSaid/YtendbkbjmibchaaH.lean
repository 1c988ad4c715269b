/- Contracts: what covers two spans, and none. -/
import Derived.Test.YtendbkbjmibchaaG
namespace Go.Proofs.Ytendbkbjmibchaa
open Go.RowKit

set_option maxHeartbeats 1000000 in
theorem cover2 (a b c d : Int) (g : Nat) (w : World) (h0 : w.cell? ⟨g, 0, none⟩ = some (.int .i64 a)) (h1 : w.cell? ⟨g, 1, none⟩ = some (.int .i64 b))
    (h2 : w.cell? ⟨g, 2, none⟩ = some (.int .i64 c)) (h3 : w.cell? ⟨g, 3, none⟩ = some (.int .i64 d)) (hg : g < w.heap.size) :
    Calls Try.prog 24 #[.slice (some ⟨g, 0, none⟩) 2 2] w fun e w' => e = .returned (sp (min a c) (max b d)) ∧ Below w.heap.size w w' := by
  have hc0 : ∀ o, (w.alloc o).cell? ⟨g, 0, none⟩ = some (.int .i64 a) := fun o => by rw [World.cell?_alloc_past _ _ _ hg]; exact h0
  have hc1 : ∀ o, (w.alloc o).cell? ⟨g, 1, none⟩ = some (.int .i64 b) := fun o => by rw [World.cell?_alloc_past _ _ _ hg]; exact h1
  have hc2 : ∀ o o', ((w.alloc o).alloc o').cell? ⟨g, 2, none⟩ = some (.int .i64 c) := fun o o' => by rw [World.cell?_alloc_past _ _ _ (by simp; omega), World.cell?_alloc_past _ _ _ hg]; exact h2
  have hc3 : ∀ o o', ((w.alloc o).alloc o').cell? ⟨g, 3, none⟩ = some (.int .i64 d) := fun o o' => by rw [World.cell?_alloc_past _ _ _ (by simp; omega), World.cell?_alloc_past _ _ _ hg]; exact h3
  clear h0 h1 h2 h3
  go_enter Try.func24, Try.ntmps24
  have m1 : ∀ o o' : Obj, g ≠ w.heap.size := fun _ _ => by omega
  go_wp2_with fail
  refine wp_loop_rounds 2 ?_
  rw [rounds_succ]
  go_wp2
  all_goals
    rw [rounds_succ]
    go_wp2
    refine bodyPost_ret (v := sp (min a c) (max b d)) (by simp [results, Try.results24, go_sem]; omega) rfl ⟨rfl, ?_⟩
    repeat (first | exact Below.refl _ _ | refine Below.setCell ?_ (by simp) _ | refine Below.alloc ?_ (by simp <;> omega) _)

set_option maxHeartbeats 1000000 in
theorem cover0 (w : World) : Calls Try.prog 24 #[.slice none 0 0] w fun e w' => e = .returned (sp 0 0) ∧ Below w.heap.size w w' := by
  go_enter Try.func24, Try.ntmps24
  go_wp2
  refine bodyPost_ret (v := sp 0 0) (by simp [results, Try.results24, go_sem]) rfl ⟨rfl, ?_⟩
  exact (Below.refl _ _).alloc (Nat.le_refl _) _
end Go.Proofs.Ytendbkbjmibchaa
