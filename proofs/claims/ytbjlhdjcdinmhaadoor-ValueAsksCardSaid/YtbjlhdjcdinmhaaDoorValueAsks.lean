/- Proved: the law ValueAsks returns true for every input, and leaves its arguments as they were. Conditions: the listed tables of the library start as the program's text lays them (the card ties them). -/
import Derived.Test.YtbjlhdjcdinmhaaDoorValueAsksWalk
import Derived.Test.YtbjlhdjcdinmhaaDoorRL
import Derived.Test.YtbjlhdjcdinmhaaDoorTD
import Derived.Test.YtbjlhdjcdinmhaaDoorTabs
import Derived.Test.YtbjlhdjcdinmhaaDoorLaw
import Derived.ProofKit
import Derived.ChangeMaps5
import Derived.SizedLaws
namespace Go.Proofs.YtbjlhdjcdinmhaaDoor.valueAsks
open Go.ChangeShapes Go.WideShapes Go.ChangeAt Go.RowKit Go.Lib
open Go.ChangeMaps (open_string)

set_option maxRecDepth 100000 in
theorem lifted (os : Os) (started : os.Started) (H : Type) (enc : TypeId × Value → H) :
    ReturnsInHanded {} Tryd.checked os 3 .any (fun w args => (Rows.valueAsksSpec.pre enc Tryd.prog Tryd.f3 [] false w args ∧ laidMetH Tryd.prog Rows.valueAsksRow.laid w) ∧ sizedMet enc Tryd.prog Tryd.f3 (OpenSpec.ofChange Rows.valueAsksSpec) false w args)
      (Rows.valueAsksSpec.post enc Tryd.prog Tryd.f3 false true false false) := by
  refine returnsInHanded_of_change_and (C := Tryd.checked) (X := fun w _ => laidMetH Tryd.prog Rows.valueAsksRow.laid w) (fun _ _ _ hh h => h.of_heap hh) own started (by kernel_rfl) Tryd.func3
    (ChangeSpec.witness_shaped (enc := enc) (C := Tryd.checked) (os := os) (X := fun w _ => laidMetH Tryd.prog Rows.valueAsksRow.laid w) false (World.laidAll Tryd.prog os Rows.valueAsksRow.laid) #[.agg #[.int .i64 0, .int .i64 0, .string ⟨#[]⟩, .slice none 0 0, .slice none 0 0], .agg #[.int .i64 0, .int .i64 0, .string ⟨#[]⟩, .slice none 0 0, .slice none 0 0], .agg #[.int .i64 0, .slice none 0 0, .slice none 0 0], .string ⟨#[]⟩] 8 (World.laidAll_os _ _ _)
      (World.shaped_of_ZipB (by kernel_rfl) (by kernel_rfl)) (by kernel_rfl) (by kernel_rfl) (by kernel_rfl)
      (by rw [MakeChecks.laidMetH_plain _ _ _ (by kernel_rfl)]; exact laidMet_laidAll _ (by kernel_rfl) (by kernel_rfl))) ?_
  intro W base args ds gs before hval0 hW hX1 hX2 hL hX4
  have hsz : (DataW.weightsEach Tryd.prog (Tryd.f3.params.toList ++ Rows.valueAsksSpec.plain.varTypes Tryd.prog) (ds ++ gs)).all (· ≤ reachBytes) = true := by first | exact hX1 | exact hX2 | exact hX4
  clear hX1 hX2 hX4
  have hval : ∀ (j : Nat) t v, Tryd.f3.params[j]? = some t → args[j]? = some v → Value.okWide Tryd.prog W .any base t v := hval0
  have hW' := hW
  obtain ⟨p, q, hA0, hV, rfl, hfz, hnd⟩ := hW
  have hA : DataW.TrodAll enc Tryd.prog W 0 (fun _ => true) true Tryd.f3.params.toList args.toList ds p := hA0
  rw [Tryd.params3] at hA hval hsz
  obtain ⟨w0, vs0, d0, ds0, p0, q0, hargs, rfl, rfl, h0, r0⟩ := trodAll_cons hA
  obtain ⟨w1, vs1, d1, ds1, p1, q1, rfl, rfl, rfl, h1, r1⟩ := trodAll_cons r0
  obtain ⟨w2, vs2, d2, ds2, p2, q2, rfl, rfl, rfl, h2, r2⟩ := trodAll_cons r1
  obtain ⟨w3, vs3, d3, ds3, p3, q3, rfl, rfl, rfl, h3, r3⟩ := trodAll_cons r2
  obtain ⟨rfl, rfl, rfl⟩ := trodAll_nil r3
  obtain rfl : args = #[w0, w1, w2, w3] := by cases args; simp_all
  obtain ⟨rfl, rfl⟩ := trodVars_none hV
  have reach : reachBytes = 140737488351232 := by decide
  have z0 : ∀ n ∈ DataW.weights Tryd.prog 25 d0, n ≤ 140737488351232 := fun n hn => by
    have := of_decide_eq_true (List.all_eq_true.1 hsz n (DataW.weights_mem_each (j := 0) (t := 25) rfl rfl n hn))
    rw [reach] at this
    exact this
  obtain ⟨t0, N0, n0, V0, v0, rfl, i0, g0⟩ := Vm.open_valargR (hval 0 25 w0 rfl rfl) h0 z0
  have z1 : ∀ n ∈ DataW.weights Tryd.prog 25 d1, n ≤ 140737488351232 := fun n hn => by
    have := of_decide_eq_true (List.all_eq_true.1 hsz n (DataW.weights_mem_each (j := 1) (t := 25) rfl rfl n hn))
    rw [reach] at this
    exact this
  obtain ⟨t1, N1, n1, V1, v1, rfl, i1⟩ := Vm.open_valarg (hval 1 25 w1 rfl rfl) h1 z1
  have z2 : ∀ n ∈ DataW.weights Tryd.prog 28 d2, n ≤ 140737488351232 := fun n hn => by
    have := of_decide_eq_true (List.all_eq_true.1 hsz n (DataW.weights_mem_each (j := 2) (t := 28) rfl rfl n hn))
    rw [reach] at this
    exact this
  obtain ⟨t2, N2, n2, V2, v2, rfl, i2⟩ := Tm.open_tyarg (hval 2 28 w2 rfl rfl) h2 z2
  obtain ⟨a3, rfl, rfl, rfl, i3⟩ := open_string Tryd.underlying9 (hval 3 9 w3 rfl rfl) h3
  rw [MakeChecks.laidMetH_plain _ _ _ (by kernel_rfl)] at hL
  have hT : Vm.Tb W := tb_of hL (by simp [Rows.valueAsksRow])
  clear hA0 hval0
  refine (Vm.asks_walk W t0 _ N0 n0 V0 v0 i0 t1 _ N1 n1 V1 v1 i1 t2 _ N2 n2 V2 v2 i2 a3 g0 hT).mono fun e W' ⟨he, hb⟩ => ?_
  subst he
  refine ⟨_, rfl, law_post laidOut rfl (by rfl : Tryd.f3.resultTypes = #[4]) Tryd.underlying4 ?_ hW' ⟨rfl, rfl, rfl⟩ hb⟩
  intro t ht
  rw [Tryd.params3] at ht
  simp at ht
  rcases ht with rfl | rfl | rfl | rfl
  · exact rd25
  · exact rd28
  · exact rd9

theorem over : Rows.valueAsksRow.holds Tryd.pinned (OpenSpec.ofChange Rows.valueAsksSpec) :=
  OpenClaim.holds_of_wide 3 Tryd.f3 rfl rfl rfl rfl rfl rfl rfl ⟨rfl, rfl, rfl, rfl, rfl⟩ rfl rfl rfl rfl rfl (by kernel_rfl) Tryd.func3 (by kernel_rfl)
    (of_decide_eq_true (by kernel_rfl)) (by unfold Func.isWrapper; first | (rw [if_pos (by decide +kernel)]; kernel_rfl) | (rw [if_neg (by decide +kernel)]; exact ⟨rfl, rfl⟩))
    (fun os started H enc _ => lifted os started H enc)

/-- The statement. -/
theorem proved : Rows.ValueAsksCardSaid :=
  Claim7.holds_tied_plain_at .later [] [.data, .data, .data] true (true, "f46e3bd104f2a807385e0b42454447b4a8b6bb09c54333dee052fe2f38e383da") false over (fun _ h => by cases h) (by kernel_rfl) (fun _ h => by cases h) valueAsks_row_tie rfl ⟨rfl, rfl⟩ (by kernel_rfl) rfl
    (fun f fn hf hfn => by
      obtain rfl : f = 3 := Option.some.inj ((show Tryd.prog.funcNamed "whetstone/whetstonelaw11.ValueAsks" = some 3 by kernel_rfl).symm.trans hf) |>.symm
      obtain rfl : fn = Tryd.f3 := (Option.some.inj (Tryd.func3.symm.trans hfn)).symm
      exact ⟨by kernel_rfl, fun j t ht => by
        rw [Tryd.params3] at ht
        have hm : t ∈ [25, 25, 28, 9] := by simpa using Array.mem_of_getElem? ht
        have hall : ([25, 25, 28, 9].all fun u => !Tryd.prog.wantsStandIn u) = true := by kernel_rfl
        exact (show Tryd.prog.wantsStandIn t = false by simpa using List.all_eq_true.1 hall t hm)⟩)
    (by kernel_rfl)
#print axioms proved
end Go.Proofs.YtbjlhdjcdinmhaaDoor.valueAsks
