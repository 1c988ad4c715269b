/- Proved: the law EditSorts returns true for every input, and leaves its arguments as they were. No condition. -/
import Derived.Test.YtendbkbjmibchaaEditSortsWalk
import Derived.Test.YtendbkbjmibchaaLaw
import Derived.Test.YtendbkbjmibchaaArg
import Derived.ChangeMaps5
import Derived.SizedLaws
namespace Go.Proofs.Ytendbkbjmibchaa.editSorts
open Go.ChangeShapes Go.WideShapes Go.ChangeAt Go.RowKit
open Go.ChangeMaps (open_string)

theorem own : ownKnob Try.prog.godebug = none := by kernel_rfl
theorem laid : laidOutB Try.prog = true := by kernel_rfl
theorem reach : reachBytes = 140737488351232 := by decide
theorem rd53 : Try.prog.readableRec 53 = true ∧ 53 < Try.prog.types.size := ⟨by kernel_rfl, of_decide_eq_true (by kernel_rfl)⟩

set_option maxRecDepth 100000 in
set_option maxHeartbeats 1000000 in
theorem lifted (os : Os) (started : os.Started) (H : Type) (enc : TypeId × Value → H) :
    ReturnsInHanded {} Try.checked os 11 .any (Rows.editSortsSpec.pre6 enc Try.prog Try.f11 Rows.editSortsRow.domain false) (Rows.editSortsSpec.post enc Try.prog Try.f11 false true false false) := by
  refine returnsInHanded_of_change_sized (C := Try.checked) own started (by kernel_rfl) Try.func11
    (ChangeSpec.witness6 (enc := enc) (C := Try.checked) false ⟨#[], #[.slice none 0 0], []⟩ 8 (by kernel_rfl) (by kernel_rfl) (by kernel_rfl) (by kernel_rfl)) ?_
  intro W base args ds gs before hval0 hW hcnd hsz0 _
  have hsz : (DataW.weightsEach Try.prog (Try.f11.params.toList ++ Rows.editSortsSpec.plain.varTypes Try.prog) (ds ++ gs)).all (· ≤ reachBytes) = true := hsz0
  clear hsz0
  have hval : ∀ (j : Nat) t v, Try.f11.params[j]? = some t → args[j]? = some v → Value.okWide Try.prog W .any base t v := hval0
  have hW' := hW
  obtain ⟨p, q, hA0, hV, rfl, hfz, hnd⟩ := hW
  have hA : DataW.TrodAll enc Try.prog W 0 (fun _ => true) true Try.f11.params.toList args.toList ds p := hA0
  rw [Try.params11] at hA hval hsz
  obtain ⟨v0, vs0, d0, ds0, p0, q0, hargs, rfl, rfl, h0, r0⟩ := trodAll_cons hA
  obtain ⟨rfl, rfl, rfl⟩ := trodAll_nil r0
  obtain rfl : args = #[v0] := by cases args; simp_all
  obtain ⟨rfl, rfl⟩ := trodVars_none hV
  obtain ⟨A0, c0, es0, rfl, g0, l0, hd0⟩ := open_edits (hval 0 53 v0 rfl rfl) h0
  have z0 : ∀ e ∈ es0, e.x.size ≤ 140737488351232 := by
    rcases hd0 with ⟨_, rfl⟩ | ⟨spare, rfl⟩
    · intro e he; simp at he
    · intro e he
      have := edits_sized Try.underlying53 Try.underlying68 hsz (j := 0) rfl rfl e he
      rw [reach] at this
      exact this
  clear hA0 hval0
  refine (editSorts_walk A0 c0 es0 W g0 l0 z0).mono fun e W' ⟨he, hb⟩ => ?_
  subst he
  refine ⟨_, rfl, law_post laid rfl (by rfl : Try.f11.resultTypes = #[4]) Try.underlying4 ?_ hW' ⟨rfl, rfl, rfl⟩ hb⟩
  intro t ht
  rw [Try.params11] at ht
  simp at ht
  subst ht
  exact rd53

theorem over : Rows.editSortsRow.holds Try.pinned (OpenSpec.ofChange Rows.editSortsSpec) :=
  OpenClaim.holds_of_wide 11 Try.f11 rfl rfl rfl rfl rfl rfl rfl ⟨rfl, rfl, rfl, rfl, rfl⟩ rfl rfl rfl rfl rfl (by kernel_rfl) Try.func11 (by kernel_rfl)
    (of_decide_eq_true (by kernel_rfl)) (by unfold Func.isWrapper; first | (rw [if_pos (by decide +kernel)]; kernel_rfl) | (rw [if_neg (by decide +kernel)]; exact ⟨rfl, rfl⟩))
    (fun os started H enc _ => lifted os started H enc)

/-- The statement. -/
theorem proved : Rows.EditSortsSaid := over
#print axioms proved
end Go.Proofs.Ytendbkbjmibchaa.editSorts
