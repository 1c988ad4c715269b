/- Proved: the law RelateJoins returns true for every input, and leaves its arguments as they were. Conditions: the listed tables of the library start as the program's text lays them (the card ties them). -/
import Derived.Test.YtifkjngclkklfaaGreatDoorRelateJoinsWalk
import Derived.Test.YtifkjngclkklfaaGreatDoorMGt
import Derived.Test.YtifkjngclkklfaaGreatDoorMGj
import Derived.Test.YtifkjngclkklfaaGreatDoorMGl
import Derived.Test.YtifkjngclkklfaaGreatDoorMGc
import Derived.ProofKit
import Derived.ChangeMaps5
import Derived.SizedLaws
namespace Go.Proofs.YtifkjngclkklfaaGreatDoor.relateJoins
open Go.ChangeShapes Go.WideShapes Go.ChangeAt Go.RowKit Go.Lib
open Go.ChangeMaps (open_string)

set_option maxRecDepth 100000 in
theorem lifted (os : Os) (started : os.Started) (H : Type) (enc : TypeId × Value → H) :
    ReturnsInHanded {} Tryz.checked os 8 .any (fun w args => (Rows.relateJoinsSpec.pre enc Tryz.prog Tryz.f8 [] false w args ∧ laidMetH Tryz.prog Rows.relateJoinsRow.laid w) ∧ sizedMet enc Tryz.prog Tryz.f8 (OpenSpec.ofChange Rows.relateJoinsSpec) false w args)
      (Rows.relateJoinsSpec.post enc Tryz.prog Tryz.f8 false true false false) := by
  refine returnsInHanded_of_change_and (C := Tryz.checked) (X := fun w _ => laidMetH Tryz.prog Rows.relateJoinsRow.laid w) (fun _ _ _ hh h => h.of_heap hh) own started (by kernel_rfl) Tryz.func8
    (ChangeSpec.witness_shaped (enc := enc) (C := Tryz.checked) (os := os) (X := fun w _ => laidMetH Tryz.prog Rows.relateJoinsRow.laid w) false (World.laidAll Tryz.prog os Rows.relateJoinsRow.laid) #[.agg #[.int .i64 0, .slice none 0 0, .slice none 0 0], .agg #[.int .i64 0, .slice none 0 0, .slice none 0 0], .slice none 0 0] 8 (World.laidAll_os _ _ _)
      (World.shaped_of_ZipB (by kernel_rfl) (by kernel_rfl)) (by kernel_rfl) (by kernel_rfl) (by kernel_rfl)
      (by rw [MakeChecks.laidMetH_plain _ _ _ (by kernel_rfl)]; exact laidMet_laidAll _ (by kernel_rfl) (by kernel_rfl))) ?_
  intro W base args ds gs before hval0 hW hX1 hX2 hL hX4
  have hsz : (DataW.weightsEach Tryz.prog (Tryz.f8.params.toList ++ Rows.relateJoinsSpec.plain.varTypes Tryz.prog) (ds ++ gs)).all (· ≤ reachBytes) = true := by first | exact hX1 | exact hX2 | exact hX4
  clear hX1 hX2 hX4
  have hval : ∀ (j : Nat) t v, Tryz.f8.params[j]? = some t → args[j]? = some v → Value.okWide Tryz.prog W .any base t v := hval0
  have hW' := hW
  obtain ⟨p, q, hA0, hV, rfl, hfz, hnd⟩ := hW
  have hA : DataW.TrodAll enc Tryz.prog W 0 (fun _ => true) true Tryz.f8.params.toList args.toList ds p := hA0
  rw [Tryz.params8] at hA hval hsz
  obtain ⟨w0, vs0, d0, ds0, p0, q0, hargs, rfl, rfl, h0, r0⟩ := trodAll_cons hA
  obtain ⟨w1, vs1, d1, ds1, p1, q1, rfl, rfl, rfl, h1, r1⟩ := trodAll_cons r0
  obtain ⟨w2, vs2, d2, ds2, p2, q2, rfl, rfl, rfl, h2, r2⟩ := trodAll_cons r1
  obtain ⟨rfl, rfl, rfl⟩ := trodAll_nil r2
  obtain rfl : args = #[w0, w1, w2] := by cases args; simp_all
  obtain ⟨rfl, rfl⟩ := trodVars_none hV
  have reach : reachBytes = 140737488351232 := by decide
  have z0 : ∀ n ∈ DataW.weights Tryz.prog 25 d0, n ≤ 140737488351232 := fun n hn => by
    have := of_decide_eq_true (List.all_eq_true.1 hsz n (DataW.weights_mem_each (j := 0) (t := 25) rfl rfl n hn))
    rw [reach] at this
    exact this
  obtain ⟨t0, N0, n0, V0, v0, rfl, i0⟩ := Tm.open_tyarg (hval 0 25 w0 rfl rfl) h0 z0
  have z1 : ∀ n ∈ DataW.weights Tryz.prog 25 d1, n ≤ 140737488351232 := fun n hn => by
    have := of_decide_eq_true (List.all_eq_true.1 hsz n (DataW.weights_mem_each (j := 1) (t := 25) rfl rfl n hn))
    rw [reach] at this
    exact this
  obtain ⟨t1, N1, n1, V1, v1, rfl, i1⟩ := Tm.open_tyarg (hval 1 25 w1 rfl rfl) h1 z1
  have z2 : ∀ n ∈ DataW.weights Tryz.prog 23 d2, n ≤ 140737488351232 := fun n hn => by
    have := of_decide_eq_true (List.all_eq_true.1 hsz n (DataW.weights_mem_each (j := 2) (t := 23) rfl rfl n hn))
    rw [reach] at this
    exact this
  obtain ⟨ps2, A2, c2, rfl, i2⟩ := Tm.open_tysarg (hval 2 23 w2 rfl rfl) h2 z2
  rw [MakeChecks.laidMetH_plain _ _ _ (by kernel_rfl)] at hL
  have hT : Tabs W := tabs_of hL (by simp [Rows.relateJoinsRow]) (by simp [Rows.relateJoinsRow])
  have hE : Errs W := errs_of hL (by simp [Rows.relateJoinsRow]) (by simp [Rows.relateJoinsRow])
  clear hA0 hval0
  refine (Tm.rjoins_walk W t0 _ N0 n0 V0 v0 i0 t1 _ N1 n1 V1 v1 i1 ps2 _ A2 c2 i2 hT hE).mono fun e W' ⟨he, hb⟩ => ?_
  subst he
  refine ⟨_, rfl, law_post laidOut rfl (by rfl : Tryz.f8.resultTypes = #[4]) Tryz.underlying4 ?_ hW' ⟨rfl, rfl, rfl⟩ hb⟩
  intro t ht
  rw [Tryz.params8] at ht
  simp at ht
  rcases ht with rfl | rfl
  · exact rd25
  · exact rd23

theorem over : Rows.relateJoinsRow.holds Tryz.pinned (OpenSpec.ofChange Rows.relateJoinsSpec) :=
  OpenClaim.holds_of_wide 8 Tryz.f8 rfl rfl rfl rfl rfl rfl rfl ⟨rfl, rfl, rfl, rfl, rfl⟩ rfl rfl rfl rfl rfl (by kernel_rfl) Tryz.func8 (by kernel_rfl)
    (of_decide_eq_true (by kernel_rfl)) (by unfold Func.isWrapper; first | (rw [if_pos (by decide +kernel)]; kernel_rfl) | (rw [if_neg (by decide +kernel)]; exact ⟨rfl, rfl⟩))
    (fun os started H enc _ => lifted os started H enc)

/-- The statement. -/
theorem proved : Rows.RelateJoinsCardSaid :=
  Claim7.holds_tied_plain_at .later [] [.data, .data, .data, .data, .sentinel, .sentinel, .pinned] true (true, "4be49b51750d8e54300cf0df8a6880d2ae7e384e86cb6aa601ffc69b069f2349") true over (fun _ h => by cases h) (by kernel_rfl) (fun _ h => by cases h) relateJoins_row_tie rfl ⟨rfl, rfl⟩ (by kernel_rfl) rfl
    (fun f fn hf hfn => by
      obtain rfl : f = 8 := Option.some.inj ((show Tryz.prog.funcNamed "whetstone/whetstonelaw10.RelateJoins" = some 8 by kernel_rfl).symm.trans hf) |>.symm
      obtain rfl : fn = Tryz.f8 := (Option.some.inj (Tryz.func8.symm.trans hfn)).symm
      exact ⟨by kernel_rfl, fun j t ht => by
        rw [Tryz.params8] at ht
        have hm : t ∈ [25, 25, 23] := by simpa using Array.mem_of_getElem? ht
        have hall : ([25, 25, 23].all fun u => !Tryz.prog.wantsStandIn u) = true := by kernel_rfl
        exact (show Tryz.prog.wantsStandIn t = false by simpa using List.all_eq_true.1 hall t hm)⟩)
    (by kernel_rfl)
#print axioms proved
end Go.Proofs.YtifkjngclkklfaaGreatDoor.relateJoins
