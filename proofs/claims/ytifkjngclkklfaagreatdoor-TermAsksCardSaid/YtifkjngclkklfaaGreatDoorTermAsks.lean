/- Proved: the law TermAsks returns true for every input, and leaves its arguments as they were. Conditions: the listed tables of the library start as the program's text lays them (the card ties them). -/
import Derived.Test.YtifkjngclkklfaaGreatDoorTermAsksWalk
import Derived.Test.YtifkjngclkklfaaGreatDoorMGt
import Derived.Test.YtifkjngclkklfaaGreatDoorMGj
import Derived.Test.YtifkjngclkklfaaGreatDoorMGl
import Derived.Test.YtifkjngclkklfaaGreatDoorMGc
import Derived.ProofKit
import Derived.ChangeMaps5
import Derived.SizedLaws
namespace Go.Proofs.YtifkjngclkklfaaGreatDoor.termAsks
open Go.ChangeShapes Go.WideShapes Go.ChangeAt Go.RowKit Go.Lib
open Go.ChangeMaps (open_string)

set_option maxRecDepth 100000 in
theorem lifted (os : Os) (started : os.Started) (H : Type) (enc : TypeId × Value → H) :
    ReturnsInHanded {} Tryz.checked os 3 .any (fun w args => (Rows.termAsksSpec.pre enc Tryz.prog Tryz.f3 [] false w args ∧ laidMetH Tryz.prog Rows.termAsksRow.laid w) ∧ sizedMet enc Tryz.prog Tryz.f3 (OpenSpec.ofChange Rows.termAsksSpec) false w args)
      (Rows.termAsksSpec.post enc Tryz.prog Tryz.f3 false true false false) := by
  refine returnsInHanded_of_change_and (C := Tryz.checked) (X := fun w _ => laidMetH Tryz.prog Rows.termAsksRow.laid w) (fun _ _ _ hh h => h.of_heap hh) own started (by kernel_rfl) Tryz.func3
    (ChangeSpec.witness_shaped (enc := enc) (C := Tryz.checked) (os := os) (X := fun w _ => laidMetH Tryz.prog Rows.termAsksRow.laid w) false (World.laidAll Tryz.prog os Rows.termAsksRow.laid) #[.agg #[.int .i64 0, .slice none 0 0, .slice none 0 0], .agg #[.int .i64 0, .slice none 0 0, .slice none 0 0], .string ⟨#[]⟩] 8 (World.laidAll_os _ _ _)
      (World.shaped_of_ZipB (by kernel_rfl) (by kernel_rfl)) (by kernel_rfl) (by kernel_rfl) (by kernel_rfl)
      (by rw [MakeChecks.laidMetH_plain _ _ _ (by kernel_rfl)]; exact laidMet_laidAll _ (by kernel_rfl) (by kernel_rfl))) ?_
  intro W base args ds gs before hval0 hW hX1 hX2 hL hX4
  have hsz : (DataW.weightsEach Tryz.prog (Tryz.f3.params.toList ++ Rows.termAsksSpec.plain.varTypes Tryz.prog) (ds ++ gs)).all (· ≤ reachBytes) = true := by first | exact hX1 | exact hX2 | exact hX4
  clear hX1 hX2 hX4
  have hval : ∀ (j : Nat) t v, Tryz.f3.params[j]? = some t → args[j]? = some v → Value.okWide Tryz.prog W .any base t v := hval0
  have hW' := hW
  obtain ⟨p, q, hA0, hV, rfl, hfz, hnd⟩ := hW
  have hA : DataW.TrodAll enc Tryz.prog W 0 (fun _ => true) true Tryz.f3.params.toList args.toList ds p := hA0
  rw [Tryz.params3] at hA hval hsz
  obtain ⟨w0, vs0, d0, ds0, p0, q0, hargs, rfl, rfl, h0, r0⟩ := trodAll_cons hA
  obtain ⟨w1, vs1, d1, ds1, p1, q1, rfl, rfl, rfl, h1, r1⟩ := trodAll_cons r0
  obtain ⟨w2, vs2, d2, ds2, p2, q2, rfl, rfl, rfl, h2, r2⟩ := trodAll_cons r1
  obtain ⟨rfl, rfl, rfl⟩ := trodAll_nil r2
  obtain rfl : args = #[w0, w1, w2] := by cases args; simp_all
  obtain ⟨rfl, rfl⟩ := trodVars_none hV
  have reach : reachBytes = 140737488351232 := by decide
  have z0 : ∀ n ∈ DataW.weights Tryz.prog 25 d0, n ≤ 140737488351232 := fun n hn => by
    have := of_decide_eq_true (List.all_eq_true.1 hsz n (DataW.weights_mem_each (j := 0) (t := 25) rfl rfl n hn))
    rw [reach] at this
    exact this
  obtain ⟨t0, N0, n0, V0, v0, rfl, i0⟩ := Tm.open_tyarg (hval 0 25 w0 rfl rfl) h0 z0
  have z1 : ∀ n ∈ DataW.weights Tryz.prog 25 d1, n ≤ 140737488351232 := fun n hn => by
    have := of_decide_eq_true (List.all_eq_true.1 hsz n (DataW.weights_mem_each (j := 1) (t := 25) rfl rfl n hn))
    rw [reach] at this
    exact this
  obtain ⟨t1, N1, n1, V1, v1, rfl, i1⟩ := Tm.open_tyarg (hval 1 25 w1 rfl rfl) h1 z1
  obtain ⟨a2, rfl, rfl, rfl, i2⟩ := open_string Tryz.underlying9 (hval 2 9 w2 rfl rfl) h2
  rw [MakeChecks.laidMetH_plain _ _ _ (by kernel_rfl)] at hL
  have hT : Tabs W := tabs_of hL (by simp [Rows.termAsksRow]) (by simp [Rows.termAsksRow])
  have hE : Errs W := errs_of hL (by simp [Rows.termAsksRow]) (by simp [Rows.termAsksRow])
  clear hA0 hval0
  refine (Tm.tasks_walk W t0 _ N0 n0 V0 v0 i0 t1 _ N1 n1 V1 v1 i1 a2 hT hE).mono fun e W' ⟨he, hb⟩ => ?_
  subst he
  refine ⟨_, rfl, law_post laidOut rfl (by rfl : Tryz.f3.resultTypes = #[4]) Tryz.underlying4 ?_ hW' ⟨rfl, rfl, rfl⟩ hb⟩
  intro t ht
  rw [Tryz.params3] at ht
  simp at ht
  rcases ht with rfl | rfl
  · exact rd25
  · exact rd9

theorem over : Rows.termAsksRow.holds Tryz.pinned (OpenSpec.ofChange Rows.termAsksSpec) :=
  OpenClaim.holds_of_wide 3 Tryz.f3 rfl rfl rfl rfl rfl rfl rfl ⟨rfl, rfl, rfl, rfl, rfl⟩ rfl rfl rfl rfl rfl (by kernel_rfl) Tryz.func3 (by kernel_rfl)
    (of_decide_eq_true (by kernel_rfl)) (by unfold Func.isWrapper; first | (rw [if_pos (by decide +kernel)]; kernel_rfl) | (rw [if_neg (by decide +kernel)]; exact ⟨rfl, rfl⟩))
    (fun os started H enc _ => lifted os started H enc)

/-- The statement. -/
theorem proved : Rows.TermAsksCardSaid :=
  Claim7.holds_tied_plain_at .later [] [.data, .data, .data, .data, .sentinel, .sentinel, .pinned] true (true, "4be49b51750d8e54300cf0df8a6880d2ae7e384e86cb6aa601ffc69b069f2349") true over (fun _ h => by cases h) (by kernel_rfl) (fun _ h => by cases h) termAsks_row_tie rfl ⟨rfl, rfl⟩ (by kernel_rfl) rfl
    (fun f fn hf hfn => by
      obtain rfl : f = 3 := Option.some.inj ((show Tryz.prog.funcNamed "whetstone/whetstonelaw09.TermAsks" = some 3 by kernel_rfl).symm.trans hf) |>.symm
      obtain rfl : fn = Tryz.f3 := (Option.some.inj (Tryz.func3.symm.trans hfn)).symm
      exact ⟨by kernel_rfl, fun j t ht => by
        rw [Tryz.params3] at ht
        have hm : t ∈ [25, 25, 9] := by simpa using Array.mem_of_getElem? ht
        have hall : ([25, 25, 9].all fun u => !Tryz.prog.wantsStandIn u) = true := by kernel_rfl
        exact (show Tryz.prog.wantsStandIn t = false by simpa using List.all_eq_true.1 hall t hm)⟩)
    (by kernel_rfl)
#print axioms proved
end Go.Proofs.YtifkjngclkklfaaGreatDoor.termAsks
