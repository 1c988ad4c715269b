/- Arguments that are labels, or types beside one another. -/
import Derived.Test.YtifkjngclkklfaaGreatDoorMGs
namespace Go.Proofs.YtifkjngclkklfaaGreatDoor
open Go.ChangeShapes Go.WideShapes Go.ChangeAt Go.RowKit Go.Deep
namespace Tm
section
variable {H : Type} {enc : TypeId × Value → H} {P : Program} {W : World}
theorem open_tys {s t te : TypeId} {f0 f1 f2 : Field} (hs : P.underlying s = some (.slice t)) (ht : P.underlying t = some (.struct #[f0, f1, f2])) (h0 : P.underlying f0.type = some (.int .i64)) (h1 : P.underlying f1.type = some (.slice te)) (h1e : P.underlying te = some .string) (h2 : P.underlying f2.type = some (.slice t))
    (k0 : P.cellsOf f0.type = 1) (k1 : P.cellsOf f1.type = 1) (k2 : P.cellsOf f2.type = 1) (ke : P.cellsOf te = 1) (o0 : f0.offset = 0) (o1 : f1.offset = 1) (o2 : f2.offset = 2) (kt : P.cellsOf t = 3)
    {fuel : Nat} {cs : List Value} {d : DataW H} {p : List MemPlace} (g2 : DataW.trod enc P W 0 (fun _ => true) true fuel s cs = some (d, p)) (hw2 : ∀ n ∈ DataW.weights P s d, n ≤ 140737488351232) :
    ∃ (ps : List Ty) (A : Option Addr) (c : Nat), cs = [.slice A ps.length c] ∧ TV W (fun _ => True) ps A c := by
  rcases open_slice hs g2 with ⟨hc2, _⟩ | ⟨a, len, cap, m2, q, D, Pl, hc2, _, hl, _, hmm, hx2, hi⟩
  · exact ⟨[], none, 0, hc2, TV.nil _ _ _ _⟩
  · rw [if_pos rfl] at hmm
    subst hmm
    rw [kt] at hi
    subst hc2
    have hx3 : d = .slice ((List.range len).map D) ((List.range (m2 - len)).map fun j => D (len + j)) := by
      simp only [Prod.mk.injEq] at hx2
      exact hx2.1
    have hwi : ∀ i, i < len → ∀ n ∈ DataW.weights P t (D i), n ≤ 140737488351232 := fun i hi' n hn => hw2 n (by
      rw [hx3, DataW.weights, hs]
      exact List.mem_cons_of_mem _ (List.mem_append_left _ (weightsAll_mem (d := D i) (List.mem_map.2 ⟨i, List.mem_range.2 hi', rfl⟩) _ hn)))
    by_cases hl0 : len = 0
    · subst hl0
      exact ⟨[], some a, m2, rfl, TV.nil _ _ _ _⟩
    · have key : ∀ i, i < len → ∃ ty An cn A c, (∀ j u, (tcs ty An cn A c)[j]? = some u → W.cell? ((a.add (i * 3)).add j) = some u) ∧ TI W (fun _ => True) ty An cn A c := fun i hi' => by
        obtain ⟨cs', hc', ht'⟩ := hi i (by omega)
        obtain ⟨ty, An, cn, A, c, rfl, hti⟩ := open_ty ht h0 h1 h1e h2 k0 k1 k2 ke o0 o1 o2 kt _ q cs' (D i) (Pl i) (Nat.le_refl _) ht' (hwi i hi')
        obtain ⟨_, _, hat⟩ := World.cells?_some hc'
        refine ⟨ty, An, cn, A, c, fun j u hu => ?_, hti⟩
        have hj := (List.getElem?_eq_some_iff.1 hu).1
        have := hat j (by simpa using hj)
        rw [this]
        exact hu
      have ha : a = ⟨a.block, a.off, none⟩ := by
        obtain ⟨ty, _, _, _, _, hk, _⟩ := key 0 (by omega)
        have := spot_of (hk 0 _ rfl)
        simpa [Addr.add] using this
      have hlt : a.block < W.heap.size := by
        obtain ⟨ty, _, _, _, _, hk, _⟩ := key 0 (by omega)
        have := World.block_lt_of_cell? W _ (hk 0 _ rfl)
        simpa [Addr.add] using this
      obtain ⟨ps, ck, q1, q2, q3⟩ := build_parts (W := W) (Q := fun _ => True) (g := a.block) (o := a.off) len (fun i hi' => by
        obtain ⟨ty, An, cn, A, c, hk, hti⟩ := key i hi'
        refine ⟨ty, An, cn, A, c, fun j u hu => ?_, hti⟩
        have := hk j u hu
        rw [ha, add_flat, add_flat, Nat.add_assoc] at this
        exact this)
      refine ⟨ps, some a, m2, by simp [q1], by omega, fun _ => ⟨a.block, a.off, ck, congrArg some ha, trivial, hlt, q2, q3⟩⟩
end
set_option maxRecDepth 100000 in
theorem open_tysarg {H : Type} {enc : TypeId × Value → H} {W : World} {base : Nat} {v : Value} {d : DataW H} {p : List MemPlace} (hv : Value.okWide Tryz.prog W .any base 23 v)
    (h : DataW.Trod enc Tryz.prog W 0 (fun _ => true) true 23 v d p) (hw : ∀ n ∈ DataW.weights Tryz.prog 23 d, n ≤ 140737488351232) :
    ∃ ps A c, v = .slice A ps.length c ∧ TV W (fun _ => True) ps A c := by
  obtain ⟨a, len, cap, rfl⟩ := okWide_slice Tryz.underlying23 hv
  obtain ⟨fuel, hf⟩ := h
  obtain ⟨ps, A, c, hcs, hti⟩ := open_tys Tryz.underlying23 Tryz.underlying25 Tryz.underlying3 Tryz.underlying22 Tryz.underlying9 Tryz.underlying23 (by kernel_rfl) (by kernel_rfl) (by kernel_rfl) (by kernel_rfl) rfl rfl rfl (by kernel_rfl) hf hw
  refine ⟨ps, A, c, ?_, hti⟩
  simpa [Value.cells] using hcs
set_option maxRecDepth 100000 in
theorem open_namesarg {H : Type} {enc : TypeId × Value → H} {W : World} {base : Nat} {v : Value} {d : DataW H} {p : List MemPlace} (hv : Value.okWide Tryz.prog W .any base 22 v)
    (h : DataW.Trod enc Tryz.prog W 0 (fun _ => true) true 22 v d p) (hw : ∀ n ∈ DataW.weights Tryz.prog 22 d, n ≤ 140737488351232) :
    ∃ ns A c, v = .slice A ns.length c ∧ NV W (fun _ => True) ns A c := by
  obtain ⟨a, len, cap, rfl⟩ := okWide_slice Tryz.underlying22 hv
  obtain ⟨fuel, hf⟩ := h
  obtain ⟨A, c, ns, hcs, hti⟩ := open_names Tryz.underlying22 Tryz.underlying9 (by kernel_rfl) hf hw
  refine ⟨ns, A, c, ?_, hti⟩
  simpa [Value.cells] using hcs
end Tm
theorem rd23 : Tryz.prog.readableRec 23 = true ∧ 23 < Tryz.prog.types.size := ⟨by kernel_rfl, of_decide_eq_true (by kernel_rfl)⟩
theorem rd22 : Tryz.prog.readableRec 22 = true ∧ 22 < Tryz.prog.types.size := ⟨by kernel_rfl, of_decide_eq_true (by kernel_rfl)⟩
end Go.Proofs.YtifkjngclkklfaaGreatDoor
