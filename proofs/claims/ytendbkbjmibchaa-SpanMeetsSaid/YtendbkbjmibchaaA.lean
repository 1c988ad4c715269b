/- Contracts of the small functions on spans (package span): what each returns, for all spans, and that old memory stays. -/
import Derived.Test.YtendbkbjmibchaaBase
namespace Go.Proofs.Ytendbkbjmibchaa
open Go.RowKit

set_option maxHeartbeats 400000 in
theorem has_any (f t a : Int) (w : World) : Calls Try.prog 23 #[sp f t, .int .i64 a] w fun e w' => e = .returned (.bool (decide (f ≤ a) && decide (a < t))) ∧ Below w.heap.size w w' := by
  go_enter Try.func23, Try.ntmps23
  go_wp2
  all_goals
    go_ret
    exact ⟨rb (by simp <;> omega), (Below.refl _ _).alloc (Nat.le_refl _) _⟩

set_option maxHeartbeats 400000 in
theorem sound_any (f t n : Int) (w : World) : Calls Try.prog 30 #[sp f t, .int .i64 n] w fun e w' => e = .returned (.bool (decide (0 ≤ f) && decide (f ≤ t) && decide (t ≤ n))) ∧ Below w.heap.size w w' := by
  go_enter Try.func30, Try.ntmps30
  go_wp2
  all_goals
    go_ret
    exact ⟨rb (by simp <;> omega), (Below.refl _ _).alloc (Nat.le_refl _) _⟩

set_option maxHeartbeats 400000 in
theorem holds_any (f t g u : Int) (w : World) : Calls Try.prog 27 #[sp f t, sp g u] w fun e w' => e = .returned (.bool (decide (f ≤ g) && decide (g ≤ u) && decide (u ≤ t))) ∧ Below w.heap.size w w' := by
  go_enter Try.func27, Try.ntmps27
  go_wp2
  all_goals
    go_ret
    exact ⟨rb (by simp <;> omega), ((Below.refl _ _).alloc (Nat.le_refl _) _).alloc (by simp) _⟩

set_option maxHeartbeats 400000 in
theorem meets_any (f t g u : Int) (w : World) : Calls Try.prog 26 #[sp f t, sp g u] w fun e w' => e = .returned (.bool (decide (max f g < min t u))) ∧ Below w.heap.size w w' := by
  go_enter Try.func26, Try.ntmps26
  go_wp2
  all_goals
    go_ret
    exact ⟨rb (by simp <;> omega), ((Below.refl _ _).alloc (Nat.le_refl _) _).alloc (by simp) _⟩

set_option maxHeartbeats 400000 in
theorem long_any (f t : Int) (w : World) (hf : 0 ≤ f) (ht : 0 ≤ t) (hm : f ≤ 9223372036854775807) (hn : t ≤ 9223372036854775807) :
    Calls Try.prog 25 #[sp f t] w fun e w' => e = .returned (.int .i64 (if t < f then 0 else t - f)) ∧ Below w.heap.size w w' := by
  go_enter Try.func25, Try.ntmps25
  go_wp2
  all_goals
    go_ret
    exact ⟨ri (by first | rfl | omega | (split <;> omega)), (Below.refl _ _).alloc (Nat.le_refl _) _⟩

/-- cmp.isNaN, slices.isNaN, cmp.Less over int. -/
theorem nan_any (a : Int) (w : World) : Calls Try.prog 67 #[.int .i64 a] w fun e w' => e = .returned (.bool false) ∧ w = w' := by
  go_enter Try.func67, Try.ntmps67
  go_wp2
  go_ret
  exact ⟨by simp, rfl⟩
theorem snan_any (a : Int) (w : World) : Calls Try.prog 69 #[.int .i64 a] w fun e w' => e = .returned (.bool false) ∧ w = w' := by
  go_enter Try.func69, Try.ntmps69
  go_wp2
  go_ret
  exact ⟨by simp, rfl⟩
theorem less_any (a b : Int) (w : World) : Calls Try.prog 68 #[.int .i64 a, .int .i64 b] w fun e w' => e = .returned (.bool (decide (a < b))) ∧ w = w' := by
  go_enter Try.func68, Try.ntmps68
  go_wp2
  all_goals
    go_ret
    exact ⟨rb (by simp <;> omega), rfl⟩
end Go.Proofs.Ytendbkbjmibchaa
