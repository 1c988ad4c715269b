/- Rows of bytes that a conversion of a string made: they bear a mark behind their end; appending to them, their text. -/
import Derived.Test.YtpbheelocigciaaDoorPQ
import Derived.Test.YtpbheelocigciaaDoorShA
import Derived.Lib.ConvBytes
import Derived.Lib.FrozenHead
namespace Go.Proofs.YtpbheelocigciaaDoor
open Go.RowKit

/-- The slice v, whose row lies from block B on, holds these bytes; cells behind them may be written, up to its capacity. -/
def OwnM (w : World) (B : Nat) (v : Value) (l : List UInt8) : Prop :=
  ∃ g cap cur fz, v = .slice (some ⟨g, 0, none⟩) l.length cap ∧ B ≤ g ∧ w.heap[g]? = some (.cells cur 5 fz) ∧ (fz.2 = 0 ∨ cap ≤ fz.1) ∧ l.length ≤ cap ∧ cap ≤ maxLen ∧ cur.size = cap ∧ cur.toList.take l.length = Lib.byteCells l

theorem OwnM.lt {w : World} {B : Nat} {v : Value} {l : List UInt8} (h : OwnM w B v l) : ∀ k, v.ownBlock = some k → B ≤ k ∧ k < w.heap.size := by
  obtain ⟨g, cap, cur, fz, rfl, hB, hg, _⟩ := h
  intro k hk
  simp only [Value.ownBlock, Option.some.injEq] at hk
  subst hk
  refine ⟨hB, ?_⟩
  rcases Nat.lt_or_ge g w.heap.size with h1 | h1
  · exact h1
  · rw [Array.getElem?_eq_none h1] at hg; cases hg
theorem OwnM.grown {w w' : World} {B : Nat} {v : Value} {l : List UInt8} (h : OwnM w B v l) (hg : ∀ k, k < w.heap.size → w'.heap[k]? = w.heap[k]?) : OwnM w' B v l := by
  have hlt := h.lt
  obtain ⟨g, cap, cur, fz, rfl, hB, hh, r⟩ := h
  exact ⟨g, cap, cur, fz, rfl, hB, (hg g (hlt g rfl).2).trans hh, r⟩
theorem OwnM.alloc {w : World} {B : Nat} {v : Value} {l : List UInt8} (h : OwnM w B v l) (o : Obj) : OwnM (w.alloc o) B v l := h.grown fun k hk => Below.heap_alloc w o k hk
theorem OwnM.cell {w : World} {B g n cap : Nat} {l : List UInt8} (h : OwnM w B (.slice (some ⟨g, 0, none⟩) n cap) l) : ∀ j u, (Lib.byteCells l)[j]? = some u → w.cell? ((⟨g, 0, none⟩ : Addr).add j) = some u := by
  obtain ⟨g', cap', cur, fz, hv, hB, hh, hf, hl, hc, hz, ht⟩ := h
  injection hv with e1 _ _
  injection e1 with e1
  injection e1 with e1
  subst e1
  intro j u hu
  rw [show (⟨g, 0, none⟩ : Addr).add j = ⟨g, j, none⟩ by simp only [Addr.add]; split <;> simp_all, cell_of_row w g j cur 5 fz hh]
  rw [← ht, List.getElem?_take] at hu
  split at hu
  · simpa using hu
  · cases hu

theorem store_mark (P : Program) (g o : Nat) (t : TypeId) (fz : Nat × Nat) : ∀ (vs : List Value) (i : Nat) (cur : Array Value) (w : World), w.heap[g]? = some (.cells cur t fz) → (fz.2 = 0 ∨ cur.size ≤ fz.1) → o + i + vs.length ≤ cur.size → (∀ v ∈ vs, v.oneCell' = true) →
    (storeCells ⟨g, o, none⟩ vs i).run P w = .ok () (w.setRow g (cur.toList.take (o + i) ++ vs ++ cur.toList.drop (o + i + vs.length)).toArray)
  | [], i, cur, w, hg, _, _, _ => by
    simp only [storeCells, List.append_nil, List.length_nil, Nat.add_zero, List.take_append_drop, Array.toArray_toList]
    rw [setRow_self w g cur t fz hg]
    rfl
  | v :: rest, i, cur, w, hg, hfz, hl, h1 => by
    have hi : o + i < cur.size := by simp at hl; omega
    have hadd : (⟨g, o, none⟩ : Addr).add i = ⟨g, o + i, none⟩ := by unfold Addr.add; split <;> simp_all
    have hcell : w.cell? ⟨g, o + i, none⟩ = some cur[o + i] := by simp [World.cell?, hg, hi]
    have hfro : w.frozen? ⟨g, o + i, none⟩ = false := by
      obtain ⟨a, b⟩ := fz
      simp only [World.frozen?, hg, Bool.and_eq_false_iff, decide_eq_false_iff_not]
      simp only at hfz
      rcases hfz with h | h
      · right; omega
      · left; omega
    have hst : (store ((⟨g, o, none⟩ : Addr).add i) v).run P w = .ok () (w.setRow g (cur.setIfInBounds (o + i) v)) := by
      rw [hadd, run_store P w _ v _ (h1 v (by simp)), hcell]
      simp [hfro, setCell_eq_setRow w g (o + i) cur t fz v hg]
    have ih := store_mark P g o t fz rest (i + 1) (cur.setIfInBounds (o + i) v) (w.setRow g (cur.setIfInBounds (o + i) v)) (setRow_heap w g cur _ t _ hg) (by simpa using hfz) (by simp at hl ⊢; omega) (fun x hx => h1 x (by simp [hx]))
    simp only [storeCells, Sem.run_bind, hst, Result.andThen_ok, ih, setRow_setRow]
    congr 3
    have e := list_seg_step cur.toList (o + i) v rest (by simp at hl ⊢; omega)
    simpa [Array.toList_setIfInBounds, Nat.add_assoc] using e

/-- Appending bytes that lie elsewhere. -/
theorem append_mark {w : World} {B : Nat} {v : Value} {l : List UInt8} (h : OwnM w B v l) (ty : TypeId) (ad : Addr) (c : Nat) (ns : List UInt8)
    (hnews : ∀ j u, (Lib.byteCells ns)[j]? = some u → w.cell? (ad.add j) = some u) (hlim : l.length + ns.length ≤ 140737488355328) (hB : B ≤ w.heap.size) :
    ∃ v' w', (Builtin.append_ #[55, 55] ty #[v, .slice (some ad) ns.length c]).run Tryd.prog w = .ok v' w' ∧ OwnM w' B v' (l ++ ns) ∧ w.grownBy w' v.ownBlock := by
  obtain ⟨i, hi, hz0, hz1, hz2⟩ := info_parts info5
  have h0 := h
  obtain ⟨g, cap, cur, fz, rfl, hBg, hh, hf, hl, hc, hz, ht⟩ := h
  have hone : ∀ u ∈ Lib.byteCells ns, u.oneCell' = true := fun u hu => by
    obtain ⟨x, _, rfl⟩ := List.mem_map.1 hu
    rfl
  by_cases hroom : l.length + ns.length ≤ cap
  · have hfc := run_firstCells_some (P := Tryd.prog) w 1 ns.length ad ns.length c (Lib.byteCells ns) (by rw [Lib.byteCells_length, Nat.mul_one]) hnews
    have hst := store_mark Tryd.prog g l.length 5 fz (Lib.byteCells ns) 0 cur w hh (by rw [hz]; exact hf) (by rw [Lib.byteCells_length]; omega) hone
    simp only [Nat.add_zero] at hst
    have hr : (Builtin.append_ #[55, 55] ty #[.slice (some ⟨g, 0, none⟩) l.length cap, .slice (some ad) ns.length c]).run Tryd.prog w =
        .ok (.slice (some ⟨g, 0, none⟩) (l.length + ns.length) cap) (w.setRow g (cur.toList.take l.length ++ Lib.byteCells ns ++ cur.toList.drop (l.length + (Lib.byteCells ns).length)).toArray) := by
      simp [Builtin.append_, run_underlying Tryd.underlying55, sizeOf, typeInfo, hi, hz1, Builtin.lenOf, hroom, hfc, Addr.add_lit, hst]
    refine ⟨_, _, hr, ⟨g, cap, _, fz, by rw [List.length_append], hBg, setRow_heap w g cur _ 5 _ hh, hf, by rw [List.length_append]; omega, hc, ?_, ?_⟩, ⟨rfl, rfl, rfl, by simp, fun k _ hk => setRow_other w g k _ (fun e => hk (by simp [Value.ownBlock, e]))⟩⟩
    · simp only [List.size_toArray, List.length_append, List.length_take, List.length_drop, Array.length_toList, Lib.byteCells_length]
      omega
    · rw [ht, ← Lib.byteCells_append]
      have e : (l ++ ns).length = (Lib.byteCells (l ++ ns)).length := (Lib.byteCells_length _).symm
      rw [e]
      exact List.take_left
  · have hr := run_append_grow (P := Tryd.prog) w 55 ty 5 i (.int .u8 0) Tryd.underlying55 hi hz0 ⟨g, 0, none⟩ l.length cap (Lib.byteCells l) (by rw [Lib.byteCells_length, hz1, Nat.mul_one]) h0.cell ad ns.length c (Lib.byteCells ns) (by rw [Lib.byteCells_length, hz1, Nat.mul_one]) hnews (by omega) (by omega) (growslice_fits (by omega) (by rw [hz2]; omega))
    have hge := grownCap_ge w (l.length + ns.length) cap 5
    have hcm := grownCap_le_maxLen w (l.length + ns.length) cap 5 (by unfold maxLen; omega)
    refine ⟨_, _, hr, ⟨w.heap.size, _, _, (0, 0), by rw [List.length_append], hB, heap_alloc_new w.drew _, .inl rfl, by rw [List.length_append]; exact hge, hcm, ?_, ?_⟩, ⟨rfl, rfl, rfl, by simp, fun k hk _ => heap_alloc_old w.drew _ hk⟩⟩
    · have hz1' : (Value.int IntKind.u8 0).cells.size = 1 := rfl
      simp only [Array.size_append, List.size_toArray, size_zeroCells, hz1', Lib.byteCells_length]
      omega
    · simp only [Array.toList_append, List.append_assoc]
      rw [← List.append_assoc, ← Lib.byteCells_append]
      have e : (l ++ ns).length = (Lib.byteCells (l ++ ns)).length := (Lib.byteCells_length _).symm
      rw [e]
      exact List.take_left
/-- The same, for the walk. -/
theorem wpList_append_mark {w : World} {ops : Array Oper} {rest : List Oper} {o : Oper} {a : Act} {Q : Exit → Act → World → Prop} (hgd : o.guard = none) (s x : Operand)
    (ho : o.op = .call { callee := .builtin .append, args := #[s, x], argTypes := #[55, 55] }) {B : Nat} {v : Value} {l : List UInt8} (hs : a.eval s = v) (h : OwnM w B v l) (ad : Addr) (c : Nat) (ns : List UInt8) (m : Nat) (hm : ns.length = m)
    (hx : a.eval x = .slice (some ad) m c) (hnews : ∀ j u, (Lib.byteCells ns)[j]? = some u → w.cell? (ad.add j) = some u) (hlim : l.length + ns.length ≤ 140737488355328) (hB : B ≤ w.heap.size)
    (hk : ∀ v' w', OwnM w' B v' (l ++ ns) → w.grownBy w' v.ownBlock → wpList Tryd.prog ops Q rest (a.put o.dst v') w') : wpList Tryd.prog ops Q (o :: rest) a w :=
  wpList_plain hgd fun K hK => by
    subst hm
    obtain ⟨v', w', hr, h2, h3⟩ := append_mark h o.type ad c ns hnews hlim hB
    unfold Oper.wp execOp
    simp only [ho, resolve, invoke, builtin, Sem.run_bind, Sem.run_pure, Result.andThen_ok, List.map_toArray, List.map_cons, List.map_nil, hs, hx, hr]
    exact hK _ _ (hk v' w' h2 h3)
/-- The text of such a row. -/
theorem conv_mark {w : World} {B : Nat} {v : Value} {l : List UInt8} (h : OwnM w B v l) : (convert 55 9 v).run Tryd.prog w = .ok (.string ⟨l.toArray⟩) w := by
  have h0 := h
  obtain ⟨g, cap, cur, fz, rfl, hBg, hh, hf, hl, hc, hz, ht⟩ := h
  exact run_convert_bytes_back w 55 9 5 ⟨g, 0, none⟩ cap l Tryd.underlying55 Tryd.underlying5 Tryd.underlying9 fun j hj => h0.cell j _ (by simp [Lib.byteCells, hj])
/-- The row of a text's bytes. -/
theorem made_mark (w : World) (s : ByteArray) (hs : s.size ≤ 100000) :
    ∃ v w', (convert 9 55 (.string s)).run Tryd.prog w = .ok v w' ∧ OwnM w' w.heap.size v s.data.toList ∧ Below w.heap.size w w' := by
  refine ⟨_, _, Lib.run_convert_string_bytes w 9 55 5 s Tryd.underlying9 Tryd.underlying55 Tryd.underlying5, ⟨w.heap.size, grownCap w s.size 0 5, _, _, by rw [len_list], Nat.le_refl _, Lib.bytesWorld_at_new w 5 s, .inr ?_, ?_, ?_, ?_, ?_⟩, ?_⟩
  · simp only [Lib.bytesCells, Array.size_append, Array.size_map, Array.size_replicate]
    have := grownCap_ge w s.size 0 5
    have e : s.data.size = s.size := rfl
    omega
  · rw [len_list]; exact grownCap_ge w s.size 0 5
  · exact grownCap_le_maxLen w s.size 0 5 (by unfold maxLen; omega)
  · simp only [Lib.bytesCells, Array.size_append, Array.size_map, Array.size_replicate]
    have := grownCap_ge w s.size 0 5
    have e : s.data.size = s.size := rfl
    omega
  · simp only [Lib.bytesCells, Array.toList_append, Array.toList_map]
    have e : s.data.toList.length = (Lib.byteCells s.data.toList).length := (Lib.byteCells_length _).symm
    rw [e]
    exact List.take_left
  · refine ⟨?_, ?_, ?_, ?_, ?_⟩
    · rfl
    · rfl
    · rfl
    · rw [Lib.bytesWorld_size]; omega
    · intro k hk
      exact Lib.bytesWorld_at_old w 5 s k hk
end Go.Proofs.YtpbheelocigciaaDoor
