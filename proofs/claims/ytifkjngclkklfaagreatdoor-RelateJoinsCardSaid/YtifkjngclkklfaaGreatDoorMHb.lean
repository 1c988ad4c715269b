/- A label put into a record where it belongs (mathematics of the document's Record). -/
import Derived.Test.YtifkjngclkklfaaGreatDoorMGj
import Derived.Test.YtifkjngclkklfaaGreatDoorMGu
import Derived.Deep.AppendLies
namespace Go.Proofs.YtifkjngclkklfaaGreatDoor
namespace Tm
/-- x put ahead of what stands at i. -/
def insAt {α : Type} (l : List α) (i : Nat) (x : α) : List α := l.take i ++ x :: l.drop i
theorem insAt_len {α : Type} (l : List α) (i : Nat) (x : α) : (insAt l i x).length = l.length + 1 := by
  unfold insAt
  rw [List.length_append, List.length_cons, List.length_take, List.length_drop]
  omega
theorem insAt_mem {α : Type} {l : List α} {i : Nat} {x y : α} : y ∈ insAt l i x ↔ y = x ∨ y ∈ l := by
  unfold insAt
  rw [List.mem_append, List.mem_cons]
  constructor
  · rintro (h | h | h)
    · exact .inr (List.mem_of_mem_take h)
    · exact .inl h
    · exact .inr (List.mem_of_mem_drop h)
  · rintro (h | h)
    · exact .inr (.inl h)
    · rw [← List.take_append_drop i l, List.mem_append] at h
      rcases h with h | h
      · exact .inl h
      · exact .inr (.inr h)
theorem insAt_zip {α β : Type} : ∀ {l : List α} {m : List β} (i : Nat) (x : α) (y : β), l.length = m.length → (insAt l i x).zip (insAt m i y) = insAt (l.zip m) i (x, y)
  | _, _, 0, _, _, _ => by simp [insAt]
  | [], [], _ + 1, _, _, _ => by simp [insAt]
  | [], _ :: _, _, _, _, h => by simp at h
  | _ :: _, [], _, _, _, h => by simp at h
  | a :: l, b :: m, i + 1, x, y, h => by
    have ih := insAt_zip (l := l) (m := m) i x y (by simpa using h)
    unfold insAt at ih ⊢
    simp only [List.take_succ_cons, List.drop_succ_cons, List.cons_append, List.zip_cons_cons, ih]
theorem rise_hcons {a : ByteArray} {l : List ByteArray} (h : riseB l = true) (k : ∀ y, l.head? = some y → lt a y = true) : riseB (a :: l) = true := by
  cases l with
  | nil => rfl
  | cons b l => rw [riseB, Bool.and_eq_true]; exact ⟨k b rfl, h⟩
theorem rise_htail {a : ByteArray} {l : List ByteArray} (h : riseB (a :: l) = true) : riseB l = true ∧ ∀ y, l.head? = some y → lt a y = true := by
  cases l with
  | nil => exact ⟨rfl, fun y h => by simp at h⟩
  | cons b l =>
    rw [riseB, Bool.and_eq_true] at h
    exact ⟨h.2, fun y hy => by simp at hy; rw [← hy]; exact h.1⟩
theorem ins_rise {x : ByteArray} : ∀ {l : List ByteArray} (i : Nat), riseB l = true → (∀ y ∈ l.take i, lt y x = true) → (∀ y, l[i]? = some y → lt x y = true) → riseB (insAt l i x) = true
  | [], _, _, _, _ => by simp [insAt, riseB]
  | b :: l, 0, h, _, k => by
    unfold insAt
    simp only [List.take_zero, List.nil_append, List.drop_zero]
    exact rise_hcons h fun y hy => by simp at hy; exact k y (by simpa using hy)
  | b :: l, i + 1, h, h1, k => by
    obtain ⟨hl, hb⟩ := rise_htail h
    have ih := ins_rise (l := l) i hl (fun y hy => h1 y (by simp [hy])) (fun y hy => k y (by simpa using hy))
    unfold insAt at ih ⊢
    simp only [List.take_succ_cons, List.drop_succ_cons, List.cons_append]
    refine rise_hcons ih fun y hy => ?_
    cases i with
    | zero =>
      simp at hy
      rw [← hy]
      exact h1 b (by simp)
    | succ i =>
      cases l with
      | nil =>
        simp at hy
        rw [← hy]
        exact h1 b (by simp)
      | cons c l =>
        simp at hy
        exact hb y (by simpa using hy)
/-- One label more. -/
theorem rec_ins {ns : List ByteArray} {ps : List Ty} {t : Ty} {x : ByteArray} {p : Ty} {i k : Nat} (h : IsRec (ns.take k) (ps.take k) t) (hx : ns[k]? = some x) (hp : ps[k]? = some p)
    (h1 : ∀ y ∈ t.names.take i, lt y x = true) (h2 : ∀ y, t.names[i]? = some y → lt x y = true) : IsRec (ns.take (k + 1)) (ps.take (k + 1)) (.mk 3 (insAt t.names i x) (insAt t.parts i p)) := by
  have hk : k < ns.length := (List.getElem?_eq_some_iff.1 hx).1
  have hk' : k < ps.length := (List.getElem?_eq_some_iff.1 hp).1
  refine ⟨rfl, ins_rise i h.rise h1 h2, ?_, fun y q => ?_⟩
  · simp only [names_mk, parts_mk, insAt_len, h.len]
  · simp only [names_mk, parts_mk]
    rw [insAt_zip _ _ _ h.len, insAt_mem, h.mem, List.take_add_one, hx, List.take_add_one, hp, List.zip_append (by simp; omega), List.mem_append]
    simp only [Option.toList_some, List.zip_cons_cons, List.zip_nil_left, List.mem_singleton]
    constructor
    · rintro (h | h)
      · exact .inr h
      · exact .inl h
    · rintro (h | h)
      · exact .inr h
      · exact .inl h
theorem rec_start : IsRec [] [] (.mk 3 [] []) := ⟨rfl, rfl, rfl, fun _ _ => by simp⟩
theorem rec_names {ns : List ByteArray} {ps : List Ty} {t : Ty} (h : IsRec ns ps t) (hl : ns.length = ps.length) (x : ByteArray) : x ∈ t.names ↔ x ∈ ns := by
  constructor
  · intro hx
    rw [← zip_fst h.len, List.mem_map] at hx
    obtain ⟨⟨y, q⟩, hm, rfl⟩ := hx
    have := (h.mem y q).1 hm
    rw [← zip_fst hl, List.mem_map]
    exact ⟨_, this, rfl⟩
  · intro hx
    rw [← zip_fst hl, List.mem_map] at hx
    obtain ⟨⟨y, q⟩, hm, rfl⟩ := hx
    have := (h.mem y q).2 hm
    rw [← zip_fst h.len, List.mem_map]
    exact ⟨_, this, rfl⟩
end Tm
end Go.Proofs.YtifkjngclkklfaaGreatDoor
/- Many names, many types, put behind the rows that grow beside one another. -/
namespace Go.Proofs.YtifkjngclkklfaaGreatDoor
open Go.RowKit Go.Op
namespace Tm
theorem info9E : ∃ i, Tryz.prog.info? 9 = some i ∧ i.zero = some (.string ⟨#[]⟩) ∧ i.size = 1 ∧ i.bytes = 16 := by
  have h := info9
  cases e : Tryz.prog.info? 9 with
  | none => rw [e] at h; cases h
  | some i =>
    rw [e] at h
    simp only [Option.map_some, Option.some.injEq, Prod.mk.injEq] at h
    exact ⟨i, rfl, h.1, h.2.1, h.2.2⟩
/-- Names beside one another, put behind a row of one's own. -/
theorem append_names {w : World} (base : Nat) (v : Value) (n : Nat) (xs : List Value) (hown : w.ownsRow base 9 1 v n xs) (A : Option Addr) (c : Nat) (l : List ByteArray)
    (hA : 0 < l.length → ∃ g o, A = some ⟨g, o, none⟩ ∧ ∀ (j : Nat) (s : ByteArray), l[j]? = some s → w.cell? ⟨g, o + j, none⟩ = some (.string s)) (hnm : n + l.length ≤ 4000004) (hbase : base ≤ w.heap.size) :
    ∃ v' w', (Builtin.append_ #[22, 22] 22 #[v, .slice A l.length c]).run Tryz.prog w = .ok v' w' ∧ w'.ownsRow base 9 1 v' (n + l.length) (xs ++ l.map Value.string) ∧ w.grownBy w' v.ownBlock := by
  obtain ⟨i, hi, hz, hs, hb⟩ := info9E
  by_cases h0 : l = []
  · subst h0
    cases A with
    | none =>
      refine ⟨v, w, ?_, by simpa using hown, ⟨rfl, rfl, rfl, Nat.le_refl _, fun _ _ _ => rfl⟩⟩
      rcases hown.2 with ⟨rfl, rfl⟩ | ⟨g, cap, cur, rfl, _, _, hnc, _⟩
      · simp [Builtin.append_, run_underlying Tryz.underlying22, Go.sizeOf, typeInfo, hi, Builtin.lenOf, Builtin.firstCells]
      · simp [Builtin.append_, run_underlying Tryz.underlying22, Go.sizeOf, typeInfo, hi, Builtin.lenOf, Builtin.firstCells, hnc, storeCells]
    | some ad =>
      obtain ⟨v', w', h1, h2, h3, _⟩ := run_append_own (P := Tryz.prog) w base 22 22 9 i _ 1 16 Tryz.underlying22 hi hz hs hb rfl (by decide) v n xs hown ad 0 c [] rfl (fun j u h => by simp at h) (fun u h => by simp at h) (by simp only [maxLen]; simp at hnm; omega) (by simp at hnm; omega) hbase
      exact ⟨v', w', h1, by simpa using h2, h3⟩
  · obtain ⟨g, o, rfl, hc⟩ := hA (List.length_pos_iff.2 h0)
    obtain ⟨v', w', h1, h2, h3, _⟩ := run_append_own (P := Tryz.prog) w base 22 22 9 i _ 1 16 Tryz.underlying22 hi hz hs hb rfl (by decide) v n xs hown ⟨g, o, none⟩ l.length c (l.map Value.string) (by simp) (fun j u h => by
      rw [add_flat]
      rw [List.getElem?_map, Option.map_eq_some_iff] at h
      obtain ⟨s, h, rfl⟩ := h
      exact hc j s h) (fun u h => by
      obtain ⟨s, _, rfl⟩ := List.mem_map.1 h
      rfl) (by simp only [maxLen]; omega) (by omega) hbase
    exact ⟨v', w', h1, h2, h3⟩
theorem RS.apps1 {W wa w1 : World} {T : Nat} {P : Nat → Prop} {v1 v2 v1' : Value} {nl l : List ByteArray} {tl : List Ty} {cs : List Value} (h : RS W wa T P v1 v2 nl tl cs)
    (hown : w1.ownsRow W.heap.size 9 1 v1' (nl.length + l.length) (nl.map Value.string ++ l.map Value.string)) (hg : wa.grownBy w1 v1.ownBlock) : RS W w1 T P v1' v2 (nl ++ l) tl cs := by
  refine ⟨by simpa using hown, own_keep h.o2 hg (own_apart h.o2 h.o1 (by omega)), h.tl.keep1 hg.size (fun g hp hl => hg.block g hl fun e => ?_), h.fr.grown hg h.fr.size (fun k hk => (h.o1.lt k hk).1)⟩
  have := (h.o1.lt g e.symm).1
  omega
theorem RS.apps2 {W wa w1 : World} {T : Nat} {P : Nat → Prop} {v1 v2 v2' : Value} {nl : List ByteArray} {tl ts : List Ty} {cs ck : List Value} (h : RS W wa T P v1 v2 nl tl cs)
    (hown : w1.ownsRow W.heap.size 25 3 v2' (tl.length + ts.length) (cs ++ ck)) (hg : wa.grownBy w1 v2.ownBlock) (ht : TL W (fun g => P g ∧ g < W.heap.size ∧ g ≠ T) ts ck) : RS W w1 T P v1 v2' nl (tl ++ ts) (cs ++ ck) := by
  have hf := h.fr.grown hg h.fr.size (fun k hk => (h.o2.lt k hk).1)
  refine ⟨own_keep h.o1 hg (own_apart h.o1 h.o2 (by omega)), by simpa using hown, TL.app _ _ (h.tl.keep1 hg.size (fun g hp hl => hg.block g hl fun e => ?_)) (TL.keep hf.size (fun g hp _ => ⟨hf.block g hp.2.1 hp.2.2, hp⟩) _ _ ht), hf⟩
  have := (h.o2.lt g e.symm).1
  omega
/-- An append, by how it runs. -/
theorem wp_append_run {o : Oper} {a : Act} {w : World} {K : Act → World → Prop} {Q : Exit → Act → World → Prop} (s x : Operand) (t : TypeId)
    (ho : o.op = .call { callee := .builtin .append, args := #[s, x], argTypes := #[t, t] }) {v u v' : Value} {w' : World} (hs : a.eval s = v) (hx : a.eval x = u)
    (hr : (Builtin.append_ #[t, t] o.type #[v, u]).run Tryz.prog w = .ok v' w') (h : K (a.put o.dst v') w') : Oper.wp Tryz.prog o a w K Q := by
  unfold Oper.wp execOp
  simp only [ho, resolve, invoke, builtin, Sem.run_bind, Sem.run_pure, Result.andThen_ok, List.map_toArray, List.map_cons, List.map_nil, hs, hx, hr]
  exact h
end Tm
end Go.Proofs.YtifkjngclkklfaaGreatDoor
