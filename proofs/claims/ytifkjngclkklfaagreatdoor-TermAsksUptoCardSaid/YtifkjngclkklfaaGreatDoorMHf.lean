/- An argument that is a type, opened: how much it holds, and how long its text is. -/
import Derived.Test.YtifkjngclkklfaaGreatDoorMGs
import Derived.Test.YtifkjngclkklfaaGreatDoorMGx
import Derived.Test.YtifkjngclkklfaaGreatDoorMGy
import Derived.Test.YtifkjngclkklfaaGreatDoorRows
namespace Go.Proofs.YtifkjngclkklfaaGreatDoor
open Go.ChangeShapes Go.WideShapes Go.ChangeAt Go.RowKit Go.Deep
namespace Tm
def wtN (ns : List ByteArray) : Nat := (ns.map fun s => s.size + 1).sum
mutual
/-- How much a type holds. -/
def Ty.wt : Ty → Nat
  | .mk _ ns ps => 1 + wtN ns + wtL ps
def wtL : List Ty → Nat
  | [] => 0
  | t :: ts => t.wt + wtL ts
end
theorem wtL_app : ∀ a b : List Ty, wtL (a ++ b) = wtL a + wtL b
  | [], b => by simp [wtL]
  | t :: a, b => by rw [List.cons_append, wtL, wtL, wtL_app a b]; omega
theorem wtN_len : ∀ ns : List ByteArray, ns.length ≤ wtN ns
  | [] => by simp
  | n :: ns => by have := wtN_len ns; unfold wtN at *; simp only [List.map_cons, List.sum_cons, List.length_cons]; omega
def sumB (l : List (List UInt8)) : Nat := (l.map List.length).sum
theorem joinB_len : ∀ l : List (List UInt8), (joinB l).length ≤ sumB l + 2 * l.length
  | [] => by simp [joinB]
  | x :: l => by
    have key : ∀ l : List (List UInt8), (l.flatMap fun y => ([44, 32] : List UInt8) ++ y).length = sumB l + 2 * l.length := by
      intro l
      induction l with
      | nil => simp [sumB]
      | cons a l ih => rw [List.flatMap_cons, List.length_append, ih]; unfold sumB; simp only [List.map_cons, List.sum_cons, List.length_append, List.length_cons, List.length_nil]; omega
    rw [joinB, List.length_append, key]
    unfold sumB
    simp only [List.map_cons, List.sum_cons, List.length_cons]
    omega
theorem sumB_take (l : List (List UInt8)) (i : Nat) : sumB (l.take i) ≤ sumB l := by
  have e := congrArg sumB (List.take_append_drop i l)
  unfold sumB at *
  rw [List.map_append, List.sum_append] at e
  omega
theorem recB_sum : ∀ {ns : List ByteArray} {xs : List (List UInt8)}, sumB (recB ns xs) + 0 ≤ wtN ns + ns.length + sumB xs ∧ (recB ns xs).length ≤ ns.length
  | [], _ => by simp [recB, sumB]
  | _ :: _, [] => by simp [recB, sumB]
  | n :: ns, x :: xs => by
    obtain ⟨h1, h2⟩ := recB_sum (ns := ns) (xs := xs)
    rw [recB]
    unfold sumB wtN at *
    have e : n.data.toList.length = n.size := Array.length_toList
    simp only [List.map_cons, List.sum_cons, List.length_append, List.length_cons, List.length_nil, e]
    omega
theorem last_le : ∀ {l : List Ty}, 0 < l.length → sumB ((textL l).take (l.length - 1)) + (lastT l).text.length = sumB (textL l)
  | [t], _ => by simp [textL, lastT, sumB]
  | a :: b :: l, _ => by
    have h := last_le (l := b :: l) (by simp)
    rw [textL, lastT]
    simp only [List.length_cons, Nat.add_sub_cancel] at h ⊢
    rw [List.take_succ_cons]
    unfold sumB at *
    simp only [List.map_cons, List.sum_cons] at h ⊢
    omega
theorem text_wt : ∀ t : Ty, t.text.length + 2 ≤ 8 * t.wt := by
  refine Ty.ind fun k ns ps ih => ?_
  have hL : ∀ l : List Ty, (∀ p ∈ l, p.text.length + 2 ≤ 8 * p.wt) → sumB (textL l) + 2 * l.length ≤ 8 * wtL l := by
    intro l
    induction l with
    | nil => intro _; simp [textL, sumB, wtL]
    | cons a l ih2 =>
      intro h
      have h1 := h a List.mem_cons_self
      have h2 := ih2 fun p hp => h p (List.mem_cons_of_mem _ hp)
      rw [textL, wtL]
      unfold sumB at *
      simp only [List.map_cons, List.sum_cons, List.length_cons]
      omega
  have h1 := hL ps ih
  have h2 := wtN_len ns
  rw [Ty.wt, Ty.text]
  split
  · have a := joinB_len (recB ns (textL ps))
    obtain ⟨b, c⟩ := recB_sum (ns := ns) (xs := textL ps)
    simp only [List.length_append, List.length_cons, List.length_nil]
    omega
  · split
    · by_cases h0 : 0 < ps.length
      · have a := joinB_len ((textL ps).take (ps.length - 1))
        have b := last_le h0
        have c : ((textL ps).take (ps.length - 1)).length ≤ ps.length := by rw [List.length_take]; omega
        rw [last_textL ps h0]
        simp only [List.length_append, List.length_cons, List.length_nil]
        omega
      · obtain rfl : ps = [] := List.eq_nil_of_length_eq_zero (by omega)
        simp [textL, joinB, wtL]
        omega
    · unfold plainB
      split
      · simp
        omega
      · split <;> simp <;> omega
section
variable {H : Type} {enc : TypeId × Value → H} {P : Program} {W : World}
theorem bulk_sum : ∀ l : List (DataW H), Rows.uptoBulkAll l = (l.map Rows.uptoBulk).sum
  | [] => by simp [Rows.uptoBulkAll]
  | d :: l => by rw [Rows.uptoBulkAll, List.map_cons, List.sum_cons, bulk_sum l]
theorem bulk_mem {d : DataW H} : ∀ {l : List (DataW H)}, d ∈ l → Rows.uptoBulk d ≤ Rows.uptoBulkAll l
  | x :: r, h => by
    rw [Rows.uptoBulkAll]
    rcases List.mem_cons.1 h with rfl | h
    · omega
    · have := bulk_mem h; omega
theorem bulk_range (D : Nat → DataW H) (len : Nat) : Rows.uptoBulkAll ((List.range len).map D) = ((List.range len).map fun i => Rows.uptoBulk (D i)).sum := by
  rw [bulk_sum, List.map_map]
  rfl
/-- Labels, opened. -/
theorem open_namesB {t e : TypeId} {fuel : Nat} {cs : List Value} {d : DataW H} {p : List MemPlace} (ht : P.underlying t = some (.slice e)) (he : P.underlying e = some .string) (hc : P.cellsOf e = 1)
    (h : DataW.trod enc P W 0 (fun _ => true) true fuel t cs = some (d, p)) (hw : ∀ n ∈ DataW.weights P t d, n ≤ 140737488351232) :
    ∃ (A : Option Addr) (c : Nat) (ns : List ByteArray), cs = [.slice A ns.length c] ∧ NV W (fun _ => True) ns A c ∧ wtN ns ≤ Rows.uptoBulk d := by
  have h' := open_names ht he hc h hw
  rcases open_strs ht he hc h with ⟨rfl, _⟩ | ⟨a, len, cap, m, Sx, rfl, _, hl, _, hm, hx, hi⟩
  · exact ⟨none, 0, [], rfl, NV.nil _ _ _ _, by simp [wtN]⟩
  · rw [if_pos rfl] at hm
    subst hm
    simp only [Prod.mk.injEq] at hx
    have hbulk : wtN ((List.range len).map Sx) ≤ Rows.uptoBulk d := by
      rw [hx.1, Rows.uptoBulk, bulk_sum]
      unfold wtN
      rw [List.map_map, List.map_map]
      have e : ((fun s : ByteArray => s.size + 1) ∘ Sx) = (Rows.uptoBulk (H := H) ∘ fun i => DataW.lit (.string (Sx i).data.toList)) := by
        funext i
        have : (Sx i).data.toList.length = (Sx i).size := Array.length_toList
        simp only [Function.comp, Rows.uptoBulk, this]
      rw [e]
      omega
    refine ⟨some a, m, (List.range len).map Sx, by simp, ⟨by simpa using hl, fun s hs => ?_, fun h0 => ?_⟩, hbulk⟩
    · obtain ⟨i, hi', rfl⟩ := List.mem_map.1 hs
      refine hw _ ?_
      rw [hx.1, DataW.weights, ht]
      refine List.mem_cons_of_mem _ (List.mem_append_left _ (weightsAll_mem (d := .lit (.string (Sx i).data.toList)) (List.mem_map.2 ⟨i, hi', rfl⟩) _ ?_))
      have : (Sx i).data.toList.length = (Sx i).size := Array.length_toList
      simp [DataW.weights, this]
    · have h0' : 0 < len := by simpa using h0
      have hc0 := (hi 0 (by omega)).1
      have hsp := spot_of hc0
      have ha : a = ⟨a.block, a.off, none⟩ := by simpa [Addr.add] using hsp
      refine ⟨a.block, a.off, congrArg some ha, trivial, by have := World.block_lt_of_cell? W _ hc0; simpa [Addr.add] using this, fun i s hs => ?_⟩
      rw [List.getElem?_map, Option.map_eq_some_iff] at hs
      obtain ⟨j, hj, rfl⟩ := hs
      have hj2 := List.getElem?_eq_some_iff.1 hj
      obtain ⟨hj3, hj4⟩ := hj2
      simp only [List.getElem_range] at hj4
      subst hj4
      have := (hi i (by simp at hj3; omega)).1
      rw [ha, add_flat] at this
      exact this
theorem build_partsB {Q : Nat → Prop} {g o : Nat} {b : Nat → Nat} : ∀ len : Nat, (∀ i, i < len → ∃ ty An cn A c, (∀ j u, (tcs ty An cn A c)[j]? = some u → W.cell? ⟨g, o + (i * 3 + j), none⟩ = some u) ∧ TI W Q ty An cn A c ∧ ty.wt ≤ b i) →
    ∃ (ps : List Ty) (ck : List Value), ps.length = len ∧ (∀ j u, ck[j]? = some u → W.cell? ⟨g, o + j, none⟩ = some u) ∧ TL W Q ps ck ∧ wtL ps ≤ ((List.range len).map b).sum
  | 0, _ => ⟨[], [], rfl, fun j u h => by simp at h, by rw [TL], by simp [wtL]⟩
  | len + 1, h => by
    obtain ⟨ps, ck, h1, h2, h3, h4⟩ := build_partsB len fun i hi => h i (by omega)
    obtain ⟨ty, An, cn, A, c, k1, k2, k3⟩ := h len (by omega)
    have hl := TL.len ps ck h3
    refine ⟨ps ++ [ty], ck ++ tcs ty An cn A c, by simp [h1], fun j u hu => ?_, TL.app _ _ h3 (TL.one k2), ?_⟩
    rotate_left
    · rw [wtL_app, List.range_succ, List.map_append, List.sum_append]
      simp only [wtL, List.map_cons, List.map_nil, List.sum_cons, List.sum_nil]
      omega
    by_cases hj : j < ck.length
    · rw [List.getElem?_append_left hj] at hu
      exact h2 j u hu
    · rw [List.getElem?_append_right (by omega)] at hu
      have := k1 _ u hu
      rw [show len * 3 + (j - ck.length) = j by omega] at this
      exact this
theorem open_tyB {t te : TypeId} {f0 f1 f2 : Field} (ht : P.underlying t = some (.struct #[f0, f1, f2])) (h0 : P.underlying f0.type = some (.int .i64)) (h1 : P.underlying f1.type = some (.slice te)) (h1e : P.underlying te = some .string) (h2 : P.underlying f2.type = some (.slice t))
    (k0 : P.cellsOf f0.type = 1) (k1 : P.cellsOf f1.type = 1) (k2 : P.cellsOf f2.type = 1) (ke : P.cellsOf te = 1) (o0 : f0.offset = 0) (o1 : f1.offset = 1) (o2 : f2.offset = 2) (kt : P.cellsOf t = 3) :
    ∀ (N fuel : Nat) (cs : List Value) (d : DataW H) (p : List MemPlace), SizeOf.sizeOf d ≤ N → DataW.trod enc P W 0 (fun _ => true) true fuel t cs = some (d, p) → (∀ n ∈ DataW.weights P t d, n ≤ 140737488351232) →
      ∃ ty An cn A c, cs = tcs ty An cn A c ∧ TI W (fun _ => True) ty An cn A c ∧ ty.wt ≤ Rows.uptoBulk d := by
  intro N
  induction N with
  | zero =>
    intro fuel cs d p hs h hw
    obtain ⟨xs, m, _, hx, _⟩ := DataW.trod_struct ht h
    simp only [Prod.mk.injEq] at hx
    rw [hx.1] at hs
    simp at hs
  | succ N ih =>
    intro fuel cs d p hs h hw
    obtain ⟨xs, m, _, hx, hlen, hxl, hf⟩ := DataW.trod_struct ht h
    rw [kt] at hlen
    match cs, hlen with
    | [c0, c1, c2], _ =>
      match xs, hxl with
      | [x0, x1, x2], _ =>
        have g0 := hf 0 f0 rfl
        have g1 := hf 1 f1 rfl
        have g2 := hf 2 f2 rfl
        rw [o0, k0] at g0
        rw [o1, k1] at g1
        rw [o2, k2] at g2
        simp only [List.drop_zero, List.take_succ_cons, List.take_zero, List.drop_succ_cons, List.getElem?_cons_zero, List.getElem?_cons_succ] at g0 g1 g2
        simp only [Prod.mk.injEq] at hx
        have hd := hx.1
        obtain ⟨z, hz, _⟩ := DataW.trod_int h0 g0
        simp at hz
        subst hz
        have hw1 : ∀ n ∈ DataW.weights P f1.type x1.1, n ≤ 140737488351232 := fun n hn => hw n (by
          rw [hd, DataW.weights, ht]
          simp [DataW.weightsEach, hn])
        have hw2 : ∀ n ∈ DataW.weights P f2.type x2.1, n ≤ 140737488351232 := fun n hn => hw n (by
          rw [hd, DataW.weights, ht]
          simp [DataW.weightsEach, hn])
        obtain ⟨An, cn, ns, hns, hnv, hnw⟩ := open_namesB h1 h1e ke (d := x1.1) (p := x1.2) g1 hw1
        have hbd : Rows.uptoBulk d = Rows.uptoBulk x0.1 + (Rows.uptoBulk x1.1 + (Rows.uptoBulk x2.1 + 0)) + 1 := by rw [hd]; simp only [List.map_cons, List.map_nil, Rows.uptoBulk, Rows.uptoBulkAll]
        simp at hns
        subst hns
        rcases open_slice h2 g2 with ⟨hc2, _⟩ | ⟨a, len, cap, m2, q, D, Pl, hc2, _, hl, _, hmm, hx2, hi⟩
        · simp at hc2
          subst hc2
          exact ⟨.mk z ns [], An, cn, none, 0, rfl, TI_iff.2 ⟨hnv, TV.nil _ _ _ _⟩, by rw [Ty.wt, wtL]; omega⟩
        · rw [if_pos rfl] at hmm
          subst hmm
          rw [kt] at hi
          simp at hc2
          subst hc2
          have hsz : ∀ i, i < len → SizeOf.sizeOf (D i) ≤ N := fun i hi' => by
            have e1 : D i ∈ (List.range len).map D := List.mem_map.2 ⟨i, List.mem_range.2 hi', rfl⟩
            have e2 := List.sizeOf_lt_of_mem e1
            have e3 : x2.1 = .slice ((List.range len).map D) ((List.range (m2 - len)).map fun j => D (len + j)) := by rw [hx2]
            rw [hd] at hs
            simp only [List.map_cons, List.map_nil] at hs
            rw [e3] at hs
            simp at hs
            omega
          have hwi : ∀ i, i < len → ∀ n ∈ DataW.weights P t (D i), n ≤ 140737488351232 := fun i hi' n hn => hw2 n (by
            have e3 : x2.1 = .slice ((List.range len).map D) ((List.range (m2 - len)).map fun j => D (len + j)) := by rw [hx2]
            rw [e3, DataW.weights, h2]
            exact List.mem_cons_of_mem _ (List.mem_append_left _ (weightsAll_mem (d := D i) (List.mem_map.2 ⟨i, List.mem_range.2 hi', rfl⟩) _ hn)))
          by_cases hl0 : len = 0
          · subst hl0
            exact ⟨.mk z ns [], An, cn, some a, m2, rfl, TI_iff.2 ⟨hnv, TV.nil _ _ _ _⟩, by rw [Ty.wt, wtL]; omega⟩
          · have key : ∀ i, i < len → ∃ ty An cn A c, (∀ j u, (tcs ty An cn A c)[j]? = some u → W.cell? ((a.add (i * 3)).add j) = some u) ∧ TI W (fun _ => True) ty An cn A c ∧ ty.wt ≤ Rows.uptoBulk (D i) := fun i hi' => by
              obtain ⟨cs', hc', ht'⟩ := hi i (by omega)
              obtain ⟨ty, An, cn, A, c, rfl, hti, hwt⟩ := ih q cs' (D i) (Pl i) (hsz i hi') ht' (hwi i hi')
              obtain ⟨_, _, hat⟩ := World.cells?_some hc'
              refine ⟨ty, An, cn, A, c, fun j u hu => ?_, hti, hwt⟩
              have hj := (List.getElem?_eq_some_iff.1 hu).1
              have := hat j (by simpa using hj)
              rw [this]
              exact hu
            have ha : a = ⟨a.block, a.off, none⟩ := by
              obtain ⟨ty, _, _, _, _, hk, _⟩ := key 0 (by omega)
              have := spot_of (hk 0 _ rfl)
              simpa [Addr.add] using this
            have hlt : a.block < W.heap.size := by
              obtain ⟨ty, _, _, _, _, hk, _⟩ := key 0 (by omega)
              have := World.block_lt_of_cell? W _ (hk 0 _ rfl)
              simpa [Addr.add] using this
            obtain ⟨ps, ck, q1, q2, q3, q4⟩ := build_partsB (W := W) (Q := fun _ => True) (g := a.block) (o := a.off) (b := fun i => Rows.uptoBulk (D i)) len (fun i hi' => by
              obtain ⟨ty, An, cn, A, c, hk, hti, hwt⟩ := key i hi'
              refine ⟨ty, An, cn, A, c, fun j u hu => ?_, hti, hwt⟩
              have := hk j u hu
              rw [ha, add_flat, add_flat, Nat.add_assoc] at this
              exact this)
            refine ⟨.mk z ns ps, An, cn, some a, m2, by simp [q1], TI_iff.2 ⟨hnv, by show ps.length ≤ m2; omega, fun _ => ⟨a.block, a.off, ck, congrArg some ha, trivial, hlt, q2, q3⟩⟩, ?_⟩
            rw [← bulk_range] at q4
            have e3 : x2.1 = .slice ((List.range len).map D) ((List.range (m2 - len)).map fun j => D (len + j)) := by rw [hx2]
            have e4 : Rows.uptoBulkAll ((List.range len).map D) ≤ Rows.uptoBulk x2.1 := by rw [e3, Rows.uptoBulk]; omega
            rw [Ty.wt]
            omega
end
set_option maxRecDepth 100000 in
theorem open_tyargB {H : Type} {enc : TypeId × Value → H} {W : World} {base : Nat} {v : Value} {d : DataW H} {p : List MemPlace} (hv : Value.okWide Tryz.prog W .any base 25 v)
    (h : DataW.Trod enc Tryz.prog W 0 (fun _ => true) true 25 v d p) (hw : ∀ n ∈ DataW.weights Tryz.prog 25 d, n ≤ 140737488351232) :
    ∃ ty An cn A c, v = tv ty An cn A c ∧ TI W (fun _ => True) ty An cn A c ∧ ty.wt ≤ Rows.uptoBulk d := by
  obtain ⟨cs, rfl, hsz⟩ := okWide_struct Tryz.underlying25 hv
  obtain ⟨fuel, hf⟩ := h
  obtain ⟨ty, An, cn, A, c, hcs, hti, hwt⟩ := open_tyB Tryz.underlying25 Tryz.underlying3 Tryz.underlying22 Tryz.underlying9 Tryz.underlying23 (by kernel_rfl) (by kernel_rfl) (by kernel_rfl) (by kernel_rfl) rfl rfl rfl (by kernel_rfl) _ fuel _ d p (Nat.le_refl _) hf hw
  refine ⟨ty, An, cn, A, c, ?_, hti, hwt⟩
  have h2 : cs.toList = tcs ty An cn A c := by simpa [Value.cells] using hcs
  have h3 : cs = (tcs ty An cn A c).toArray := by rw [← h2]
  rw [h3]
end Tm
end Go.Proofs.YtifkjngclkklfaaGreatDoor
