/- Proved: the law EditThree returns true for every input, and leaves its arguments as they were. No condition. -/
import Derived.Test.YtendbkbjmibchaaEditThreeWalk
import Derived.Test.YtendbkbjmibchaaLaw
import Derived.Test.YtendbkbjmibchaaArg
import Derived.ChangeMaps5
import Derived.SizedLaws
namespace Go.Proofs.Ytendbkbjmibchaa.editThree
open Go.ChangeShapes Go.WideShapes Go.ChangeAt Go.RowKit
open Go.ChangeMaps (open_string)

theorem own : ownKnob Try.prog.godebug = none := by kernel_rfl
theorem laid : laidOutB Try.prog = true := by kernel_rfl
theorem reach : reachBytes = 140737488351232 := by decide
theorem rd9 : Try.prog.readableRec 9 = true ∧ 9 < Try.prog.types.size := ⟨by kernel_rfl, of_decide_eq_true (by kernel_rfl)⟩
theorem rd53 : Try.prog.readableRec 53 = true ∧ 53 < Try.prog.types.size := ⟨by kernel_rfl, of_decide_eq_true (by kernel_rfl)⟩

set_option maxRecDepth 100000 in
set_option maxHeartbeats 1000000 in
theorem lifted (os : Os) (started : os.Started) (H : Type) (enc : TypeId × Value → H) :
    ReturnsInHanded {} Try.checked os 12 .any (Rows.editThreeSpec.pre6 enc Try.prog Try.f12 Rows.editThreeRow.domain false) (Rows.editThreeSpec.post enc Try.prog Try.f12 false true false false) := by
  refine returnsInHanded_of_change_sized (C := Try.checked) own started (by kernel_rfl) Try.func12
    (ChangeSpec.witness6 (enc := enc) (C := Try.checked) false ⟨#[], #[.string ⟨#[]⟩, .slice none 0 0, .slice none 0 0, .slice none 0 0], []⟩ 8 (by kernel_rfl) (by kernel_rfl) (by kernel_rfl) (by kernel_rfl)) ?_
  intro W base args ds gs before hval0 hW hcnd hsz0 _
  have hsz : (DataW.weightsEach Try.prog (Try.f12.params.toList ++ Rows.editThreeSpec.plain.varTypes Try.prog) (ds ++ gs)).all (· ≤ reachBytes) = true := hsz0
  clear hsz0
  have hval : ∀ (j : Nat) t v, Try.f12.params[j]? = some t → args[j]? = some v → Value.okWide Try.prog W .any base t v := hval0
  have hW' := hW
  obtain ⟨p, q, hA0, hV, rfl, hfz, hnd⟩ := hW
  have hA : DataW.TrodAll enc Try.prog W 0 (fun _ => true) true Try.f12.params.toList args.toList ds p := hA0
  rw [Try.params12] at hA hval hsz
  obtain ⟨v0, vs0, d0, ds0, p0, q0, hargs, rfl, rfl, h0, r0⟩ := trodAll_cons hA
  obtain ⟨v1, vs1, d1, ds1, p1, q1, rfl, rfl, rfl, h1, r1⟩ := trodAll_cons r0
  obtain ⟨v2, vs2, d2, ds2, p2, q2, rfl, rfl, rfl, h2, r2⟩ := trodAll_cons r1
  obtain ⟨v3, vs3, d3, ds3, p3, q3, rfl, rfl, rfl, h3, r3⟩ := trodAll_cons r2
  obtain ⟨rfl, rfl, rfl⟩ := trodAll_nil r3
  obtain rfl : args = #[v0, v1, v2, v3] := by cases args; simp_all
  obtain ⟨rfl, rfl⟩ := trodVars_none hV
  obtain ⟨a0, rfl, rfl, rfl, w0⟩ := open_string Try.underlying9 (hval 0 9 v0 rfl rfl) h0
  have z0 : a0.size ≤ 140737488351232 := by
    have := sized_string hsz (j := 0) (t := 9) rfl rfl
    rw [Array.length_toList, reach] at this
    exact this
  obtain ⟨A1, c1, es1, rfl, g1, l1, hd1⟩ := open_edits (hval 1 53 v1 rfl rfl) h1
  have z1 : ∀ e ∈ es1, e.x.size ≤ 140737488351232 := by
    rcases hd1 with ⟨_, rfl⟩ | ⟨spare, rfl⟩
    · intro e he; simp at he
    · intro e he
      have := edits_sized Try.underlying53 Try.underlying68 hsz (j := 1) rfl rfl e he
      rw [reach] at this
      exact this
  obtain ⟨A2, c2, es2, rfl, g2, l2, hd2⟩ := open_edits (hval 2 53 v2 rfl rfl) h2
  have z2 : ∀ e ∈ es2, e.x.size ≤ 140737488351232 := by
    rcases hd2 with ⟨_, rfl⟩ | ⟨spare, rfl⟩
    · intro e he; simp at he
    · intro e he
      have := edits_sized Try.underlying53 Try.underlying68 hsz (j := 2) rfl rfl e he
      rw [reach] at this
      exact this
  obtain ⟨A3, c3, es3, rfl, g3, l3, hd3⟩ := open_edits (hval 3 53 v3 rfl rfl) h3
  have z3 : ∀ e ∈ es3, e.x.size ≤ 140737488351232 := by
    rcases hd3 with ⟨_, rfl⟩ | ⟨spare, rfl⟩
    · intro e he; simp at he
    · intro e he
      have := edits_sized Try.underlying53 Try.underlying68 hsz (j := 3) rfl rfl e he
      rw [reach] at this
      exact this
  clear hA0 hval0
  refine (editThree_walk a0 A1 A2 A3 c1 c2 c3 es1 es2 es3 W g1 l1 g2 l2 g3 l3 z0 z1 z2 z3).mono fun e W' ⟨he, hb⟩ => ?_
  subst he
  refine ⟨_, rfl, law_post laid rfl (by rfl : Try.f12.resultTypes = #[4]) Try.underlying4 ?_ hW' ⟨rfl, rfl, rfl⟩ hb⟩
  intro t ht
  rw [Try.params12] at ht
  simp at ht
  rcases ht with rfl | rfl
  · exact rd9
  · exact rd53

theorem over : Rows.editThreeRow.holds Try.pinned (OpenSpec.ofChange Rows.editThreeSpec) :=
  OpenClaim.holds_of_wide 12 Try.f12 rfl rfl rfl rfl rfl rfl rfl ⟨rfl, rfl, rfl, rfl, rfl⟩ rfl rfl rfl rfl rfl (by kernel_rfl) Try.func12 (by kernel_rfl)
    (of_decide_eq_true (by kernel_rfl)) (by unfold Func.isWrapper; first | (rw [if_pos (by decide +kernel)]; kernel_rfl) | (rw [if_neg (by decide +kernel)]; exact ⟨rfl, rfl⟩))
    (fun os started H enc _ => lifted os started H enc)

/-- The statement. -/
theorem proved : Rows.EditThreeSaid := over
#print axioms proved
end Go.Proofs.Ytendbkbjmibchaa.editThree
