/- Arguments that are values, names, values beside one another, opened. -/
import Derived.Test.YtbjlhdjcdinmhaaDoorQD
import Derived.Test.YtbjlhdjcdinmhaaDoorQE
import Derived.ProofKit
import Derived.OpenShut
import Derived.Deep.Slices
import Derived.Deep.Strs
import Derived.SizedLaws
namespace Go.Proofs.YtbjlhdjcdinmhaaDoor
open Go.ChangeShapes Go.WideShapes Go.ChangeAt Go.RowKit Go.Deep
namespace Vm
theorem spot_of {w : World} {a : Addr} {v : Value} (h : w.cell? a = some v) : a = ⟨a.block, a.off, none⟩ := by
  unfold World.cell? at h
  split at h
  · split at h
    · cases h
    · rename_i hs
      obtain ⟨b, o, s⟩ := a
      cases s with
      | none => rfl
      | some _ => simp at hs
  · cases h
theorem add_flat' (b o n : Nat) : (⟨b, o, none⟩ : Addr).add n = ⟨b, o + n, none⟩ := by
  unfold Addr.add
  split
  · rename_i h; rw [h]; rfl
  · rfl
section
variable {H : Type} {enc : TypeId × Value → H} {P : Program} {W : World}
theorem weightsAll_mem {e : TypeId} {d : DataW H} : ∀ {ds : List (DataW H)}, d ∈ ds → ∀ n, n ∈ DataW.weights P e d → n ∈ DataW.weightsAll P e ds
  | x :: r, hd, n, hn => by
    rw [DataW.weightsAll, List.mem_append]
    rcases List.mem_cons.1 hd with rfl | h
    · exact .inl hn
    · exact .inr (weightsAll_mem h n hn)
/-- Labels, opened. -/
theorem open_names {t e : TypeId} {fuel : Nat} {cs : List Value} {d : DataW H} {p : List MemPlace} (ht : P.underlying t = some (.slice e)) (he : P.underlying e = some .string) (hc : P.cellsOf e = 1)
    (h : DataW.trod enc P W 0 (fun _ => true) true fuel t cs = some (d, p)) (hw : ∀ n ∈ DataW.weights P t d, n ≤ 140737488351232) :
    ∃ (A : Option Addr) (c : Nat) (ns : List ByteArray), cs = [.slice A ns.length c] ∧ NV W (fun _ => True) ns A c := by
  rcases open_strs ht he hc h with ⟨rfl, _⟩ | ⟨a, len, cap, m, Sx, rfl, _, hl, _, hm, hx, hi⟩
  · exact ⟨none, 0, [], rfl, NV.nil _ _ _ _⟩
  · rw [if_pos rfl] at hm
    subst hm
    simp only [Prod.mk.injEq] at hx
    refine ⟨some a, m, (List.range len).map Sx, by simp, by simpa using hl, fun s hs => ?_, fun h0 => ?_⟩
    · obtain ⟨i, hi', rfl⟩ := List.mem_map.1 hs
      refine hw _ ?_
      rw [hx.1, DataW.weights, ht]
      refine List.mem_cons_of_mem _ (List.mem_append_left _ (weightsAll_mem (d := .lit (.string (Sx i).data.toList)) (List.mem_map.2 ⟨i, hi', rfl⟩) _ ?_))
      have : (Sx i).data.toList.length = (Sx i).size := Array.length_toList
      simp [DataW.weights, this]
    · have h0' : 0 < len := by simpa using h0
      have hc0 := (hi 0 (by omega)).1
      have hsp := spot_of hc0
      have ha : a = ⟨a.block, a.off, none⟩ := by simpa [Addr.add] using hsp
      refine ⟨a.block, a.off, congrArg some ha, trivial, by have := World.block_lt_of_cell? W _ hc0; simpa [Addr.add] using this, fun i s hs => ?_⟩
      rw [List.getElem?_map, Option.map_eq_some_iff] at hs
      obtain ⟨j, hj, rfl⟩ := hs
      have hj2 := List.getElem?_eq_some_iff.1 hj
      obtain ⟨hj3, hj4⟩ := hj2
      simp only [List.getElem_range] at hj4
      subst hj4
      have := (hi i (by simp at hj3; omega)).1
      rw [ha, add_flat'] at this
      exact this
end
section
variable {H : Type} {enc : TypeId × Value → H} {P : Program} {W : World}
theorem build_parts {Q : Nat → Prop} {g o : Nat} : ∀ len : Nat, (∀ i, i < len → ∃ ty An cn A c, (∀ j u, (vcs ty An cn A c)[j]? = some u → W.cell? ⟨g, o + (i * 5 + j), none⟩ = some u) ∧ VI W Q ty An cn A c) →
    ∃ (ps : List Vl) (ck : List Value), ps.length = len ∧ (∀ j u, ck[j]? = some u → W.cell? ⟨g, o + j, none⟩ = some u) ∧ VL W Q ps ck
  | 0, _ => ⟨[], [], rfl, fun j u h => by simp at h, by rw [VL]⟩
  | len + 1, h => by
    obtain ⟨ps, ck, h1, h2, h3⟩ := build_parts len fun i hi => h i (by omega)
    obtain ⟨ty, An, cn, A, c, k1, k2⟩ := h len (by omega)
    have hl := VL.len ps ck h3
    refine ⟨ps ++ [ty], ck ++ vcs ty An cn A c, by simp [h1], fun j u hu => ?_, VL.app _ _ h3 (VL.one k2)⟩
    by_cases hj : j < ck.length
    · rw [List.getElem?_append_left hj] at hu
      exact h2 j u hu
    · rw [List.getElem?_append_right (by omega)] at hu
      have := k1 _ u hu
      rw [show len * 5 + (j - ck.length) = j by omega] at this
      exact this
theorem open_val {t te : TypeId} {f0 f1 f2 f3 f4 : Field} (ht : P.underlying t = some (.struct #[f0, f1, f2, f3, f4])) (h0 : P.underlying f0.type = some (.int .i64)) (h1 : P.underlying f1.type = some (.int .i64)) (h2 : P.underlying f2.type = some .string) (h3 : P.underlying f3.type = some (.slice te)) (h3e : P.underlying te = some .string) (h4 : P.underlying f4.type = some (.slice t))
    (k0 : P.cellsOf f0.type = 1) (k1 : P.cellsOf f1.type = 1) (k2 : P.cellsOf f2.type = 1) (k3 : P.cellsOf f3.type = 1) (k4 : P.cellsOf f4.type = 1) (ke : P.cellsOf te = 1) (o0 : f0.offset = 0) (o1 : f1.offset = 1) (o2 : f2.offset = 2) (o3 : f3.offset = 3) (o4 : f4.offset = 4) (kt : P.cellsOf t = 5) :
    ∀ (N fuel : Nat) (cs : List Value) (d : DataW H) (p : List MemPlace), SizeOf.sizeOf d ≤ N → DataW.trod enc P W 0 (fun _ => true) true fuel t cs = some (d, p) → (∀ n ∈ DataW.weights P t d, n ≤ 140737488351232) →
      ∃ ty An cn A c, cs = vcs ty An cn A c ∧ VI W (fun _ => True) ty An cn A c := by
  intro N
  induction N with
  | zero =>
    intro fuel cs d p hs h hw
    obtain ⟨xs, m, _, hx, _⟩ := DataW.trod_struct ht h
    simp only [Prod.mk.injEq] at hx
    rw [hx.1] at hs
    simp at hs
  | succ N ih =>
    intro fuel cs d p hs h hw
    obtain ⟨xs, m, _, hx, hlen, hxl, hf⟩ := DataW.trod_struct ht h
    rw [kt] at hlen
    match cs, hlen with
    | [c0, c1, c2, c3, c4], _ =>
      match xs, hxl with
      | [x0, x1, x2, x3, x4], _ =>
        have g0 := hf 0 f0 rfl
        have g1 := hf 1 f1 rfl
        have g2 := hf 2 f2 rfl
        have g3 := hf 3 f3 rfl
        have g4 := hf 4 f4 rfl
        rw [o0, k0] at g0
        rw [o1, k1] at g1
        rw [o2, k2] at g2
        rw [o3, k3] at g3
        rw [o4, k4] at g4
        simp only [List.drop_zero, List.take_succ_cons, List.take_zero, List.drop_succ_cons, List.getElem?_cons_zero, List.getElem?_cons_succ] at g0 g1 g2 g3 g4
        simp only [Prod.mk.injEq] at hx
        have hd := hx.1
        obtain ⟨z, hz, _⟩ := DataW.trod_int h0 g0
        simp at hz
        subst hz
        obtain ⟨z1, hz1, _⟩ := DataW.trod_int h1 g1
        simp at hz1
        subst hz1
        obtain ⟨s2, hs2, _⟩ := DataW.trod_string h2 g2
        simp at hs2
        subst hs2
        have hw1 : ∀ n ∈ DataW.weights P f3.type x3.1, n ≤ 140737488351232 := fun n hn => hw n (by
          rw [hd, DataW.weights, ht]
          simp [DataW.weightsEach, hn])
        have hw2 : ∀ n ∈ DataW.weights P f4.type x4.1, n ≤ 140737488351232 := fun n hn => hw n (by
          rw [hd, DataW.weights, ht]
          simp [DataW.weightsEach, hn])
        obtain ⟨An, cn, ns, hns, hnv⟩ := open_names h3 h3e ke (d := x3.1) (p := x3.2) g3 hw1
        simp at hns
        subst hns
        rcases open_slice h4 g4 with ⟨hc2, _⟩ | ⟨a, len, cap, m2, q, D, Pl, hc2, _, hl, _, hmm, hx2, hi⟩
        · simp at hc2
          subst hc2
          exact ⟨(.mk ⟨z, z1, s2⟩ ns []), An, cn, none, 0, rfl, VI_iff.2 ⟨hnv, VV.nil _ _ _ _⟩⟩
        · rw [if_pos rfl] at hmm
          subst hmm
          rw [kt] at hi
          simp at hc2
          subst hc2
          have hsz : ∀ i, i < len → SizeOf.sizeOf (D i) ≤ N := fun i hi' => by
            have e1 : D i ∈ (List.range len).map D := List.mem_map.2 ⟨i, List.mem_range.2 hi', rfl⟩
            have e2 := List.sizeOf_lt_of_mem e1
            have e3 : x4.1 = .slice ((List.range len).map D) ((List.range (m2 - len)).map fun j => D (len + j)) := by rw [hx2]
            rw [hd] at hs
            simp only [List.map_cons, List.map_nil] at hs
            rw [e3] at hs
            simp at hs
            omega
          have hwi : ∀ i, i < len → ∀ n ∈ DataW.weights P t (D i), n ≤ 140737488351232 := fun i hi' n hn => hw2 n (by
            have e3 : x4.1 = .slice ((List.range len).map D) ((List.range (m2 - len)).map fun j => D (len + j)) := by rw [hx2]
            rw [e3, DataW.weights, h4]
            exact List.mem_cons_of_mem _ (List.mem_append_left _ (weightsAll_mem (d := D i) (List.mem_map.2 ⟨i, List.mem_range.2 hi', rfl⟩) _ hn)))
          by_cases hl0 : len = 0
          · subst hl0
            exact ⟨(.mk ⟨z, z1, s2⟩ ns []), An, cn, some a, m2, rfl, VI_iff.2 ⟨hnv, VV.nil _ _ _ _⟩⟩
          · have key : ∀ i, i < len → ∃ ty An cn A c, (∀ j u, (vcs ty An cn A c)[j]? = some u → W.cell? ((a.add (i * 5)).add j) = some u) ∧ VI W (fun _ => True) ty An cn A c := fun i hi' => by
              obtain ⟨cs', hc', ht'⟩ := hi i (by omega)
              obtain ⟨ty, An, cn, A, c, rfl, hti⟩ := ih q cs' (D i) (Pl i) (hsz i hi') ht' (hwi i hi')
              obtain ⟨_, _, hat⟩ := World.cells?_some hc'
              refine ⟨ty, An, cn, A, c, fun j u hu => ?_, hti⟩
              have hj := (List.getElem?_eq_some_iff.1 hu).1
              have := hat j (by simpa using hj)
              rw [this]
              exact hu
            have ha : a = ⟨a.block, a.off, none⟩ := by
              obtain ⟨ty, _, _, _, _, hk, _⟩ := key 0 (by omega)
              have := spot_of (hk 0 _ rfl)
              simpa [Addr.add] using this
            have hlt : a.block < W.heap.size := by
              obtain ⟨ty, _, _, _, _, hk, _⟩ := key 0 (by omega)
              have := World.block_lt_of_cell? W _ (hk 0 _ rfl)
              simpa [Addr.add] using this
            obtain ⟨ps, ck, q1, q2, q3⟩ := build_parts (W := W) (Q := fun _ => True) (g := a.block) (o := a.off) len (fun i hi' => by
              obtain ⟨ty, An, cn, A, c, hk, hti⟩ := key i hi'
              refine ⟨ty, An, cn, A, c, fun j u hu => ?_, hti⟩
              have := hk j u hu
              rw [ha, add_flat', add_flat', Nat.add_assoc] at this
              exact this)
            refine ⟨(.mk ⟨z, z1, s2⟩ ns ps), An, cn, some a, m2, by simp [q1], VI_iff.2 ⟨hnv, by show ps.length ≤ m2; omega, fun _ => ⟨a.block, a.off, ck, congrArg some ha, trivial, hlt, q2, q3⟩⟩⟩
end
section
variable {H : Type} {enc : TypeId × Value → H} {P : Program} {W : World}
theorem open_vals {s t te : TypeId} {f0 f1 f2 f3 f4 : Field} (hs : P.underlying s = some (.slice t)) (ht : P.underlying t = some (.struct #[f0, f1, f2, f3, f4])) (h0 : P.underlying f0.type = some (.int .i64)) (h1 : P.underlying f1.type = some (.int .i64)) (h2 : P.underlying f2.type = some .string) (h3 : P.underlying f3.type = some (.slice te)) (h3e : P.underlying te = some .string) (h4 : P.underlying f4.type = some (.slice t))
    (k0 : P.cellsOf f0.type = 1) (k1 : P.cellsOf f1.type = 1) (k2 : P.cellsOf f2.type = 1) (k3 : P.cellsOf f3.type = 1) (k4 : P.cellsOf f4.type = 1) (ke : P.cellsOf te = 1) (o0 : f0.offset = 0) (o1 : f1.offset = 1) (o2 : f2.offset = 2) (o3 : f3.offset = 3) (o4 : f4.offset = 4) (kt : P.cellsOf t = 5)
    {fuel : Nat} {cs : List Value} {d : DataW H} {p : List MemPlace} (g2 : DataW.trod enc P W 0 (fun _ => true) true fuel s cs = some (d, p)) (hw2 : ∀ n ∈ DataW.weights P s d, n ≤ 140737488351232) :
    ∃ (ps : List Vl) (A : Option Addr) (c : Nat), cs = [.slice A ps.length c] ∧ VV W (fun _ => True) ps A c := by
  rcases open_slice hs g2 with ⟨hc2, _⟩ | ⟨a, len, cap, m2, q, D, Pl, hc2, _, hl, _, hmm, hx2, hi⟩
  · exact ⟨[], none, 0, hc2, VV.nil _ _ _ _⟩
  · rw [if_pos rfl] at hmm
    subst hmm
    rw [kt] at hi
    subst hc2
    have hx3 : d = .slice ((List.range len).map D) ((List.range (m2 - len)).map fun j => D (len + j)) := by
      simp only [Prod.mk.injEq] at hx2
      exact hx2.1
    have hwi : ∀ i, i < len → ∀ n ∈ DataW.weights P t (D i), n ≤ 140737488351232 := fun i hi' n hn => hw2 n (by
      rw [hx3, DataW.weights, hs]
      exact List.mem_cons_of_mem _ (List.mem_append_left _ (weightsAll_mem (d := D i) (List.mem_map.2 ⟨i, List.mem_range.2 hi', rfl⟩) _ hn)))
    by_cases hl0 : len = 0
    · subst hl0
      exact ⟨[], some a, m2, rfl, VV.nil _ _ _ _⟩
    · have key : ∀ i, i < len → ∃ ty An cn A c, (∀ j u, (vcs ty An cn A c)[j]? = some u → W.cell? ((a.add (i * 5)).add j) = some u) ∧ VI W (fun _ => True) ty An cn A c := fun i hi' => by
        obtain ⟨cs', hc', ht'⟩ := hi i (by omega)
        obtain ⟨ty, An, cn, A, c, rfl, hti⟩ := open_val ht h0 h1 h2 h3 h3e h4 k0 k1 k2 k3 k4 ke o0 o1 o2 o3 o4 kt _ q cs' (D i) (Pl i) (Nat.le_refl _) ht' (hwi i hi')
        obtain ⟨_, _, hat⟩ := World.cells?_some hc'
        refine ⟨ty, An, cn, A, c, fun j u hu => ?_, hti⟩
        have hj := (List.getElem?_eq_some_iff.1 hu).1
        have := hat j (by simpa using hj)
        rw [this]
        exact hu
      have ha : a = ⟨a.block, a.off, none⟩ := by
        obtain ⟨ty, _, _, _, _, hk, _⟩ := key 0 (by omega)
        have := spot_of (hk 0 _ rfl)
        simpa [Addr.add] using this
      have hlt : a.block < W.heap.size := by
        obtain ⟨ty, _, _, _, _, hk, _⟩ := key 0 (by omega)
        have := World.block_lt_of_cell? W _ (hk 0 _ rfl)
        simpa [Addr.add] using this
      obtain ⟨ps, ck, q1, q2, q3⟩ := build_parts (W := W) (Q := fun _ => True) (g := a.block) (o := a.off) len (fun i hi' => by
        obtain ⟨ty, An, cn, A, c, hk, hti⟩ := key i hi'
        refine ⟨ty, An, cn, A, c, fun j u hu => ?_, hti⟩
        have := hk j u hu
        rw [ha, add_flat', add_flat', Nat.add_assoc] at this
        exact this)
      refine ⟨ps, some a, m2, by simp [q1], by omega, fun _ => ⟨a.block, a.off, ck, congrArg some ha, trivial, hlt, q2, q3⟩⟩
end
set_option maxRecDepth 100000 in
theorem open_valarg {H : Type} {enc : TypeId × Value → H} {W : World} {base : Nat} {v : Value} {d : DataW H} {p : List MemPlace} (hv : Value.okWide Tryd.prog W .any base 25 v)
    (h : DataW.Trod enc Tryd.prog W 0 (fun _ => true) true 25 v d p) (hw : ∀ n ∈ DataW.weights Tryd.prog 25 d, n ≤ 140737488351232) :
    ∃ ty An cn A c, v = vv ty An cn A c ∧ VI W (fun _ => True) ty An cn A c := by
  obtain ⟨cs, rfl, hsz⟩ := okWide_struct Tryd.underlying25 hv
  obtain ⟨fuel, hf⟩ := h
  obtain ⟨ty, An, cn, A, c, hcs, hti⟩ := open_val Tryd.underlying25 Tryd.underlying3 Tryd.underlying2 Tryd.underlying9 Tryd.underlying22 Tryd.underlying9 Tryd.underlying23 (by kernel_rfl) (by kernel_rfl) (by kernel_rfl) (by kernel_rfl) (by kernel_rfl) (by kernel_rfl) rfl rfl rfl rfl rfl (by kernel_rfl) _ fuel _ d p (Nat.le_refl _) hf hw
  refine ⟨ty, An, cn, A, c, ?_, hti⟩
  have h2 : cs.toList = vcs ty An cn A c := by simpa [Value.cells] using hcs
  have h3 : cs = (vcs ty An cn A c).toArray := by rw [← h2]
  rw [h3]
set_option maxRecDepth 100000 in
theorem open_valsarg {H : Type} {enc : TypeId × Value → H} {W : World} {base : Nat} {v : Value} {d : DataW H} {p : List MemPlace} (hv : Value.okWide Tryd.prog W .any base 23 v)
    (h : DataW.Trod enc Tryd.prog W 0 (fun _ => true) true 23 v d p) (hw : ∀ n ∈ DataW.weights Tryd.prog 23 d, n ≤ 140737488351232) :
    ∃ ps A c, v = .slice A ps.length c ∧ VV W (fun _ => True) ps A c := by
  obtain ⟨a, len, cap, rfl⟩ := okWide_slice Tryd.underlying23 hv
  obtain ⟨fuel, hf⟩ := h
  obtain ⟨ps, A, c, hcs, hti⟩ := open_vals Tryd.underlying23 Tryd.underlying25 Tryd.underlying3 Tryd.underlying2 Tryd.underlying9 Tryd.underlying22 Tryd.underlying9 Tryd.underlying23 (by kernel_rfl) (by kernel_rfl) (by kernel_rfl) (by kernel_rfl) (by kernel_rfl) (by kernel_rfl) rfl rfl rfl rfl rfl (by kernel_rfl) hf hw
  refine ⟨ps, A, c, ?_, hti⟩
  simpa [Value.cells] using hcs
set_option maxRecDepth 100000 in
theorem open_namesarg {H : Type} {enc : TypeId × Value → H} {W : World} {base : Nat} {v : Value} {d : DataW H} {p : List MemPlace} (hv : Value.okWide Tryd.prog W .any base 22 v)
    (h : DataW.Trod enc Tryd.prog W 0 (fun _ => true) true 22 v d p) (hw : ∀ n ∈ DataW.weights Tryd.prog 22 d, n ≤ 140737488351232) :
    ∃ ns A c, v = .slice A ns.length c ∧ NV W (fun _ => True) ns A c := by
  obtain ⟨a, len, cap, rfl⟩ := okWide_slice Tryd.underlying22 hv
  obtain ⟨fuel, hf⟩ := h
  obtain ⟨A, c, ns, hcs, hti⟩ := open_names Tryd.underlying22 Tryd.underlying9 (by kernel_rfl) hf hw
  refine ⟨ns, A, c, ?_, hti⟩
  simpa [Value.cells] using hcs
end Vm
theorem rd25 : Tryd.prog.readableRec 25 = true ∧ 25 < Tryd.prog.types.size := ⟨by kernel_rfl, of_decide_eq_true (by kernel_rfl)⟩
theorem rd23 : Tryd.prog.readableRec 23 = true ∧ 23 < Tryd.prog.types.size := ⟨by kernel_rfl, of_decide_eq_true (by kernel_rfl)⟩
theorem rd22 : Tryd.prog.readableRec 22 = true ∧ 22 < Tryd.prog.types.size := ⟨by kernel_rfl, of_decide_eq_true (by kernel_rfl)⟩
theorem rd9 : Tryd.prog.readableRec 9 = true ∧ 9 < Tryd.prog.types.size := ⟨by kernel_rfl, of_decide_eq_true (by kernel_rfl)⟩
theorem rd3 : Tryd.prog.readableRec 3 = true ∧ 3 < Tryd.prog.types.size := ⟨by kernel_rfl, of_decide_eq_true (by kernel_rfl)⟩
theorem rd2 : Tryd.prog.readableRec 2 = true ∧ 2 < Tryd.prog.types.size := ⟨by kernel_rfl, of_decide_eq_true (by kernel_rfl)⟩
theorem rd28 : Tryd.prog.readableRec 28 = true ∧ 28 < Tryd.prog.types.size := ⟨by kernel_rfl, of_decide_eq_true (by kernel_rfl)⟩
end Go.Proofs.YtbjlhdjcdinmhaaDoor
