/- An argument of this program that is a type. -/
import Derived.Test.YtbjlhdjcdinmhaaDoorTA
import Derived.Test.YtbjlhdjcdinmhaaDoorQY
namespace Go.Proofs.YtbjlhdjcdinmhaaDoor
open Go.ChangeShapes Go.WideShapes Go.ChangeAt Go.RowKit Go.Deep
namespace Tm
open Vm
section
variable {H : Type} {enc : TypeId × Value → H} {P : Program} {W : World}
theorem build_parts {Q : Nat → Prop} {g o : Nat} : ∀ len : Nat, (∀ i, i < len → ∃ ty An cn A c, (∀ j u, (tcs ty An cn A c)[j]? = some u → W.cell? ⟨g, o + (i * 3 + j), none⟩ = some u) ∧ TI W Q ty An cn A c) →
    ∃ (ps : List Ty) (ck : List Value), ps.length = len ∧ (∀ j u, ck[j]? = some u → W.cell? ⟨g, o + j, none⟩ = some u) ∧ TL W Q ps ck
  | 0, _ => ⟨[], [], rfl, fun j u h => by simp at h, by rw [TL]⟩
  | len + 1, h => by
    obtain ⟨ps, ck, h1, h2, h3⟩ := build_parts len fun i hi => h i (by omega)
    obtain ⟨ty, An, cn, A, c, k1, k2⟩ := h len (by omega)
    have hl := TL.len ps ck h3
    refine ⟨ps ++ [ty], ck ++ tcs ty An cn A c, by simp [h1], fun j u hu => ?_, TL.app _ _ h3 (TL.one k2)⟩
    by_cases hj : j < ck.length
    · rw [List.getElem?_append_left hj] at hu
      exact h2 j u hu
    · rw [List.getElem?_append_right (by omega)] at hu
      have := k1 _ u hu
      rw [show len * 3 + (j - ck.length) = j by omega] at this
      exact this
theorem open_ty {t te : TypeId} {f0 f1 f2 : Field} (ht : P.underlying t = some (.struct #[f0, f1, f2])) (h0 : P.underlying f0.type = some (.int .i64)) (h1 : P.underlying f1.type = some (.slice te)) (h1e : P.underlying te = some .string) (h2 : P.underlying f2.type = some (.slice t))
    (k0 : P.cellsOf f0.type = 1) (k1 : P.cellsOf f1.type = 1) (k2 : P.cellsOf f2.type = 1) (ke : P.cellsOf te = 1) (o0 : f0.offset = 0) (o1 : f1.offset = 1) (o2 : f2.offset = 2) (kt : P.cellsOf t = 3) :
    ∀ (N fuel : Nat) (cs : List Value) (d : DataW H) (p : List MemPlace), SizeOf.sizeOf d ≤ N → DataW.trod enc P W 0 (fun _ => true) true fuel t cs = some (d, p) → (∀ n ∈ DataW.weights P t d, n ≤ 140737488351232) →
      ∃ ty An cn A c, cs = tcs ty An cn A c ∧ TI W (fun _ => True) ty An cn A c := by
  intro N
  induction N with
  | zero =>
    intro fuel cs d p hs h hw
    obtain ⟨xs, m, _, hx, _⟩ := DataW.trod_struct ht h
    simp only [Prod.mk.injEq] at hx
    rw [hx.1] at hs
    simp at hs
  | succ N ih =>
    intro fuel cs d p hs h hw
    obtain ⟨xs, m, _, hx, hlen, hxl, hf⟩ := DataW.trod_struct ht h
    rw [kt] at hlen
    match cs, hlen with
    | [c0, c1, c2], _ =>
      match xs, hxl with
      | [x0, x1, x2], _ =>
        have g0 := hf 0 f0 rfl
        have g1 := hf 1 f1 rfl
        have g2 := hf 2 f2 rfl
        rw [o0, k0] at g0
        rw [o1, k1] at g1
        rw [o2, k2] at g2
        simp only [List.drop_zero, List.take_succ_cons, List.take_zero, List.drop_succ_cons, List.getElem?_cons_zero, List.getElem?_cons_succ] at g0 g1 g2
        simp only [Prod.mk.injEq] at hx
        have hd := hx.1
        obtain ⟨z, hz, _⟩ := DataW.trod_int h0 g0
        simp at hz
        subst hz
        have hw1 : ∀ n ∈ DataW.weights P f1.type x1.1, n ≤ 140737488351232 := fun n hn => hw n (by
          rw [hd, DataW.weights, ht]
          simp [DataW.weightsEach, hn])
        have hw2 : ∀ n ∈ DataW.weights P f2.type x2.1, n ≤ 140737488351232 := fun n hn => hw n (by
          rw [hd, DataW.weights, ht]
          simp [DataW.weightsEach, hn])
        obtain ⟨An, cn, ns, hns, hnv⟩ := open_names h1 h1e ke (d := x1.1) (p := x1.2) g1 hw1
        simp at hns
        subst hns
        rcases open_slice h2 g2 with ⟨hc2, _⟩ | ⟨a, len, cap, m2, q, D, Pl, hc2, _, hl, _, hmm, hx2, hi⟩
        · simp at hc2
          subst hc2
          exact ⟨.mk z ns [], An, cn, none, 0, rfl, TI_iff.2 ⟨hnv, TV.nil _ _ _ _⟩⟩
        · rw [if_pos rfl] at hmm
          subst hmm
          rw [kt] at hi
          simp at hc2
          subst hc2
          have hsz : ∀ i, i < len → SizeOf.sizeOf (D i) ≤ N := fun i hi' => by
            have e1 : D i ∈ (List.range len).map D := List.mem_map.2 ⟨i, List.mem_range.2 hi', rfl⟩
            have e2 := List.sizeOf_lt_of_mem e1
            have e3 : x2.1 = .slice ((List.range len).map D) ((List.range (m2 - len)).map fun j => D (len + j)) := by rw [hx2]
            rw [hd] at hs
            simp only [List.map_cons, List.map_nil] at hs
            rw [e3] at hs
            simp at hs
            omega
          have hwi : ∀ i, i < len → ∀ n ∈ DataW.weights P t (D i), n ≤ 140737488351232 := fun i hi' n hn => hw2 n (by
            have e3 : x2.1 = .slice ((List.range len).map D) ((List.range (m2 - len)).map fun j => D (len + j)) := by rw [hx2]
            rw [e3, DataW.weights, h2]
            exact List.mem_cons_of_mem _ (List.mem_append_left _ (weightsAll_mem (d := D i) (List.mem_map.2 ⟨i, List.mem_range.2 hi', rfl⟩) _ hn)))
          by_cases hl0 : len = 0
          · subst hl0
            exact ⟨.mk z ns [], An, cn, some a, m2, rfl, TI_iff.2 ⟨hnv, TV.nil _ _ _ _⟩⟩
          · have key : ∀ i, i < len → ∃ ty An cn A c, (∀ j u, (tcs ty An cn A c)[j]? = some u → W.cell? ((a.add (i * 3)).add j) = some u) ∧ TI W (fun _ => True) ty An cn A c := fun i hi' => by
              obtain ⟨cs', hc', ht'⟩ := hi i (by omega)
              obtain ⟨ty, An, cn, A, c, rfl, hti⟩ := ih q cs' (D i) (Pl i) (hsz i hi') ht' (hwi i hi')
              obtain ⟨_, _, hat⟩ := World.cells?_some hc'
              refine ⟨ty, An, cn, A, c, fun j u hu => ?_, hti⟩
              have hj := (List.getElem?_eq_some_iff.1 hu).1
              have := hat j (by simpa using hj)
              rw [this]
              exact hu
            have ha : a = ⟨a.block, a.off, none⟩ := by
              obtain ⟨ty, _, _, _, _, hk, _⟩ := key 0 (by omega)
              have := spot_of (hk 0 _ rfl)
              simpa [Addr.add] using this
            have hlt : a.block < W.heap.size := by
              obtain ⟨ty, _, _, _, _, hk, _⟩ := key 0 (by omega)
              have := World.block_lt_of_cell? W _ (hk 0 _ rfl)
              simpa [Addr.add] using this
            obtain ⟨ps, ck, q1, q2, q3⟩ := build_parts (W := W) (Q := fun _ => True) (g := a.block) (o := a.off) len (fun i hi' => by
              obtain ⟨ty, An, cn, A, c, hk, hti⟩ := key i hi'
              refine ⟨ty, An, cn, A, c, fun j u hu => ?_, hti⟩
              have := hk j u hu
              rw [ha, add_flat', add_flat', Nat.add_assoc] at this
              exact this)
            refine ⟨.mk z ns ps, An, cn, some a, m2, by simp [q1], TI_iff.2 ⟨hnv, by show ps.length ≤ m2; omega, fun _ => ⟨a.block, a.off, ck, congrArg some ha, trivial, hlt, q2, q3⟩⟩⟩
end
set_option maxRecDepth 100000 in
theorem open_tyarg {H : Type} {enc : TypeId × Value → H} {W : World} {base : Nat} {v : Value} {d : DataW H} {p : List MemPlace} (hv : Value.okWide Tryd.prog W .any base 28 v)
    (h : DataW.Trod enc Tryd.prog W 0 (fun _ => true) true 28 v d p) (hw : ∀ n ∈ DataW.weights Tryd.prog 28 d, n ≤ 140737488351232) :
    ∃ ty An cn A c, v = tv ty An cn A c ∧ TI W (fun _ => True) ty An cn A c := by
  obtain ⟨cs, rfl, hsz⟩ := okWide_struct Tryd.underlying28 hv
  obtain ⟨fuel, hf⟩ := h
  obtain ⟨ty, An, cn, A, c, hcs, hti⟩ := open_ty Tryd.underlying28 Tryd.underlying3 Tryd.underlying22 Tryd.underlying9 Tryd.underlying26 (by kernel_rfl) (by kernel_rfl) (by kernel_rfl) (by kernel_rfl) rfl rfl rfl (by kernel_rfl) _ fuel _ d p (Nat.le_refl _) hf hw
  refine ⟨ty, An, cn, A, c, ?_, hti⟩
  have h2 : cs.toList = tcs ty An cn A c := by simpa [Value.cells] using hcs
  have h3 : cs = (tcs ty An cn A c).toArray := by rw [← h2]
  rw [h3]
end Tm
end Go.Proofs.YtbjlhdjcdinmhaaDoor
