/- Values: QN. -/
import Derived.Test.YtbjlhdjcdinmhaaDoorQM
namespace Go.Proofs.YtbjlhdjcdinmhaaDoor
open Go.RowKit Go.Op
namespace Vm
theorem add_flat (b o n : Nat) : (⟨b, o, none⟩ : Addr).add n = ⟨b, o + n, none⟩ := by
  unfold Addr.add
  split
  · rename_i h; rw [h]; rfl
  · rfl
/-- Labels and parts as far as they have been laid; W: the world ahead of them; T: the one old block that turns. -/
structure RU (W wa : World) (T : Nat) (P : Nat → Prop) (v1 v2 : Value) (nl : List ByteArray) (tl : List Vl) (cs : List Value) : Prop where
  o1 : wa.ownsRow W.heap.size 9 1 v1 nl.length (nl.map Value.string)
  o2 : wa.ownsRow W.heap.size 25 5 v2 tl.length cs
  tl : VL wa (fun g => P g ∧ g < W.heap.size ∧ g ≠ T) tl cs
  fr : Fr T W.heap.size W wa
theorem RU.alloc {W wa : World} {T : Nat} {P : Nat → Prop} {v1 v2 : Value} {nl : List ByteArray} {tl : List Vl} {cs : List Value} (h : RU W wa T P v1 v2 nl tl cs) (o : Obj) : RU W (wa.alloc o) T P v1 v2 nl tl cs :=
  ⟨h.o1.alloc o, h.o2.alloc o, h.tl.below (bel1 wa o), h.fr.alloc h.fr.size o⟩
theorem RU.drew {W wa : World} {T : Nat} {P : Nat → Prop} {v1 v2 : Value} {nl : List ByteArray} {tl : List Vl} {cs : List Value} (h : RU W wa T P v1 v2 nl tl cs) : RU W wa.drew T P v1 v2 nl tl cs :=
  ⟨h.o1.drew, h.o2.drew, h.tl.keep1 (Nat.le_refl _) (fun _ _ _ => rfl), h.fr.trans (.of (Below.drew (Below.refl _ _)))⟩
theorem RU.drewN {W wa : World} {T : Nat} {P : Nat → Prop} {v1 v2 : Value} {nl : List ByteArray} {tl : List Vl} {cs : List Value} (h : RU W wa T P v1 v2 nl tl cs) (n : Nat) : RU W (wa.drewN n) T P v1 v2 nl tl cs :=
  ⟨h.o1, h.o2, h.tl.keep1 (Nat.le_refl _) (fun _ _ _ => rfl), h.fr.trans (.of (below_drewN (Below.refl _ _) n))⟩
theorem RU.app1 {W wa w1 : World} {T : Nat} {P : Nat → Prop} {v1 v2 v1' : Value} {nl : List ByteArray} {tl : List Vl} {cs : List Value} (h : RU W wa T P v1 v2 nl tl cs) {s : ByteArray}
    (hown : w1.ownsRow W.heap.size 9 1 v1' (nl.length + 1) (nl.map Value.string ++ [.string s])) (hg : wa.grownBy w1 v1.ownBlock) : RU W w1 T P v1' v2 (nl ++ [s]) tl cs := by
  refine ⟨by simpa using hown, own_keep h.o2 hg (own_apart h.o2 h.o1 (by omega)), h.tl.keep1 hg.size (fun g hp hl => hg.block g hl fun e => ?_), h.fr.grown hg h.fr.size (fun k hk => (h.o1.lt k hk).1)⟩
  have := (h.o1.lt g e.symm).1
  omega
theorem RU.app2 {W wa w1 : World} {T : Nat} {P : Nat → Prop} {v1 v2 v2' : Value} {nl : List ByteArray} {tl : List Vl} {cs : List Value} (h : RU W wa T P v1 v2 nl tl cs) {t : Vl} {An : Option Addr} {cn : Nat} {A : Option Addr} {c : Nat}
    (hown : w1.ownsRow W.heap.size 25 5 v2' (tl.length + 1) (cs ++ vcs t An cn A c)) (hg : wa.grownBy w1 v2.ownBlock) (ht : VI W (fun g => P g ∧ g < W.heap.size ∧ g ≠ T) t An cn A c) : RU W w1 T P v1 v2' nl (tl ++ [t]) (cs ++ vcs t An cn A c) := by
  have hf := h.fr.grown hg h.fr.size (fun k hk => (h.o2.lt k hk).1)
  refine ⟨own_keep h.o1 hg (own_apart h.o1 h.o2 (by omega)), by simpa using hown, VL.app _ _ (h.tl.keep1 hg.size (fun g hp hl => hg.block g hl fun e => ?_)) (VL.one (ht.keep hf.size fun g hp _ => ⟨hf.block g hp.2.1 hp.2.2, hp⟩)), hf⟩
  have := (h.o2.lt g e.symm).1
  omega
theorem RU.put {W wa : World} {T : Nat} {P : Nat → Prop} {v1 v2 : Value} {nl : List ByteArray} {tl : List Vl} {cs : List Value} (h : RU W wa T P v1 v2 nl tl cs) (hT : T < W.heap.size) (j : Nat) (u : Value) : RU W (wa.setCell ⟨T, j, none⟩ u) T P v1 v2 nl tl cs := by
  have hf : Fr T wa.heap.size wa (wa.setCell ⟨T, j, none⟩ u) := (Fr.refl T wa.heap.size wa).put j u
  exact ⟨hf.own h.o1 hT, hf.own h.o2 hT, h.tl.keep1 hf.size (fun g hp hl => hf.block g hl hp.2.2), h.fr.put j u⟩
theorem RU.start (W : World) (T : Nat) (P : Nat → Prop) : RU W W T P (.slice none 0 0) (.slice none 0 0) [] [] [] :=
  ⟨World.ownsRow_nil W _ 9 1, World.ownsRow_nil W _ 25 5, by rw [VL], Fr.refl _ _ _⟩
theorem RU.apps1 {W wa w1 : World} {T : Nat} {P : Nat → Prop} {v1 v2 v1' : Value} {nl l : List ByteArray} {tl : List Vl} {cs : List Value} (h : RU W wa T P v1 v2 nl tl cs)
    (hown : w1.ownsRow W.heap.size 9 1 v1' (nl.length + l.length) (nl.map Value.string ++ l.map Value.string)) (hg : wa.grownBy w1 v1.ownBlock) : RU W w1 T P v1' v2 (nl ++ l) tl cs := by
  refine ⟨by simpa using hown, own_keep h.o2 hg (own_apart h.o2 h.o1 (by omega)), h.tl.keep1 hg.size (fun g hp hl => hg.block g hl fun e => ?_), h.fr.grown hg h.fr.size (fun k hk => (h.o1.lt k hk).1)⟩
  have := (h.o1.lt g e.symm).1
  omega
theorem RU.apps2 {W wa w1 : World} {T : Nat} {P : Nat → Prop} {v1 v2 v2' : Value} {nl : List ByteArray} {tl ts : List Vl} {cs ck : List Value} (h : RU W wa T P v1 v2 nl tl cs)
    (hown : w1.ownsRow W.heap.size 25 5 v2' (tl.length + ts.length) (cs ++ ck)) (hg : wa.grownBy w1 v2.ownBlock) (ht : VL W (fun g => P g ∧ g < W.heap.size ∧ g ≠ T) ts ck) : RU W w1 T P v1 v2' nl (tl ++ ts) (cs ++ ck) := by
  have hf := h.fr.grown hg h.fr.size (fun k hk => (h.o2.lt k hk).1)
  refine ⟨own_keep h.o1 hg (own_apart h.o1 h.o2 (by omega)), by simpa using hown, VL.app _ _ (h.tl.keep1 hg.size (fun g hp hl => hg.block g hl fun e => ?_)) (VL.keep hf.size (fun g hp _ => ⟨hf.block g hp.2.1 hp.2.2, hp⟩) _ _ ht), hf⟩
  have := (h.o2.lt g e.symm).1
  omega
/-- All is laid. -/
theorem RU.fin {W wa : World} {T : Nat} {P : Nat → Prop} {v1 v2 : Value} {nl : List ByteArray} {tl : List Vl} {cs : List Value} (h : RU W wa T P v1 v2 nl tl cs) (hz : ∀ s ∈ nl, s.size ≤ 140737488351232) (B : Nat) (hB : B ≤ W.heap.size) (k : VH) :
    ∃ An cn A c, v1 = .slice An nl.length cn ∧ v2 = .slice A tl.length c ∧ ∀ w', (∀ g, g < wa.heap.size → g ≠ T → B ≤ g ∨ P g → w'.heap[g]? = wa.heap[g]?) → wa.heap.size ≤ w'.heap.size → T < W.heap.size → VI w' (fun g => P g ∨ B ≤ g) (.mk k nl tl) An cn A c := by
  obtain ⟨An, cn, e1, c1⟩ := own_shape h.o1
  obtain ⟨A, c, e2, c2⟩ := own_shape h.o2
  refine ⟨An, cn, A, c, e1, e2, fun w' hk hs hT => VI_iff.2 ?_⟩
  have o1 := h.o1
  have o2 := h.o2
  rw [e1] at o1
  rw [e2] at o2
  have hn : NV wa (fun g => (P g ∨ B ≤ g) ∧ g ≠ T) nl An cn := NV.of_own o1 rfl hz (fun g hg _ => ⟨.inr (by omega), by omega⟩) c1
  have ht : VV wa (fun g => (P g ∨ B ≤ g) ∧ g ≠ T) tl A c := VV.of_own o2 rfl h.tl (fun g hg => ⟨.inl hg.1, hg.2.2⟩) (fun g hg _ => ⟨.inr (by omega), by omega⟩) c2
  exact ⟨hn.keep hs fun g hg hl => ⟨hk g hl hg.2 (by rcases hg.1 with h | h; exact .inr h; exact .inl h), hg.1⟩, ht.keep hs fun g hg hl => ⟨hk g hl hg.2 (by rcases hg.1 with h | h; exact .inr h; exact .inl h), hg.1⟩⟩
theorem info9E : ∃ i, Tryd.prog.info? 9 = some i ∧ i.zero = some (.string ⟨#[]⟩) ∧ i.size = 1 ∧ i.bytes = 16 := by
  have h := info9
  cases e : Tryd.prog.info? 9 with
  | none => rw [e] at h; cases h
  | some i =>
    rw [e] at h
    simp only [Option.map_some, Option.some.injEq, Prod.mk.injEq] at h
    exact ⟨i, rfl, h.1, h.2.1, h.2.2⟩
/-- Names beside one another, put behind a row of one's own. -/
theorem append_names {w : World} (base : Nat) (v : Value) (n : Nat) (xs : List Value) (hown : w.ownsRow base 9 1 v n xs) (A : Option Addr) (c : Nat) (l : List ByteArray)
    (hA : 0 < l.length → ∃ g o, A = some ⟨g, o, none⟩ ∧ ∀ (j : Nat) (s : ByteArray), l[j]? = some s → w.cell? ⟨g, o + j, none⟩ = some (.string s)) (hnm : n + l.length ≤ 4000004) (hbase : base ≤ w.heap.size) :
    ∃ v' w', (Builtin.append_ #[22, 22] 22 #[v, .slice A l.length c]).run Tryd.prog w = .ok v' w' ∧ w'.ownsRow base 9 1 v' (n + l.length) (xs ++ l.map Value.string) ∧ w.grownBy w' v.ownBlock := by
  obtain ⟨i, hi, hz, hs, hb⟩ := info9E
  by_cases h0 : l = []
  · subst h0
    cases A with
    | none =>
      refine ⟨v, w, ?_, by simpa using hown, ⟨rfl, rfl, rfl, Nat.le_refl _, fun _ _ _ => rfl⟩⟩
      rcases hown.2 with ⟨rfl, rfl⟩ | ⟨g, cap, cur, rfl, _, _, hnc, _⟩
      · simp [Builtin.append_, run_underlying Tryd.underlying22, Go.sizeOf, typeInfo, hi, Builtin.lenOf, Builtin.firstCells]
      · simp [Builtin.append_, run_underlying Tryd.underlying22, Go.sizeOf, typeInfo, hi, Builtin.lenOf, Builtin.firstCells, hnc, storeCells]
    | some ad =>
      obtain ⟨v', w', h1, h2, h3, _⟩ := run_append_own (P := Tryd.prog) w base 22 22 9 i _ 1 16 Tryd.underlying22 hi hz hs hb rfl (by decide) v n xs hown ad 0 c [] rfl (fun j u h => by simp at h) (fun u h => by simp at h) (by simp only [maxLen]; simp at hnm; omega) (by simp at hnm; omega) hbase
      exact ⟨v', w', h1, by simpa using h2, h3⟩
  · obtain ⟨g, o, rfl, hc⟩ := hA (List.length_pos_iff.2 h0)
    obtain ⟨v', w', h1, h2, h3, _⟩ := run_append_own (P := Tryd.prog) w base 22 22 9 i _ 1 16 Tryd.underlying22 hi hz hs hb rfl (by decide) v n xs hown ⟨g, o, none⟩ l.length c (l.map Value.string) (by simp) (fun j u h => by
      rw [add_flat]
      rw [List.getElem?_map, Option.map_eq_some_iff] at h
      obtain ⟨s, h, rfl⟩ := h
      exact hc j s h) (fun u h => by
      obtain ⟨s, _, rfl⟩ := List.mem_map.1 h
      rfl) (by simp only [maxLen]; omega) (by omega) hbase
    exact ⟨v', w', h1, h2, h3⟩
theorem info25E : ∃ i, Tryd.prog.info? 25 = some i ∧ i.zero = some zv ∧ i.size = 5 ∧ i.bytes = 80 := by
  have h := info25
  cases e : Tryd.prog.info? 25 with
  | none => rw [e] at h; cases h
  | some i =>
    rw [e] at h
    simp only [Option.map_some, Option.some.injEq, Prod.mk.injEq] at h
    exact ⟨i, rfl, h.1, h.2.1, h.2.2⟩
theorem append_vls {w : World} (base : Nat) (v : Value) (n : Nat) (xs : List Value) (hown : w.ownsRow base 25 5 v n xs) (A : Option Addr) (m c : Nat) (ck : List Value) (hl : ck.length = m * 5)
    (hA : 0 < m → ∃ g o, A = some ⟨g, o, none⟩ ∧ ∀ j u, ck[j]? = some u → w.cell? ⟨g, o + j, none⟩ = some u) (h1 : ∀ u ∈ ck, u.oneCell' = true) (hnm : n + m ≤ 4000004) (hbase : base ≤ w.heap.size) :
    ∃ v' w', (Builtin.append_ #[23, 23] 23 #[v, .slice A m c]).run Tryd.prog w = .ok v' w' ∧ w'.ownsRow base 25 5 v' (n + m) (xs ++ ck) ∧ w.grownBy w' v.ownBlock := by
  obtain ⟨i, hi, hz, hs, hb⟩ := info25E
  by_cases h0 : m = 0
  · subst h0
    obtain rfl : ck = [] := List.eq_nil_of_length_eq_zero (by simpa using hl)
    cases A with
    | none =>
      refine ⟨v, w, ?_, by simpa using hown, ⟨rfl, rfl, rfl, Nat.le_refl _, fun _ _ _ => rfl⟩⟩
      rcases hown.2 with ⟨rfl, rfl⟩ | ⟨g, cap, cur, rfl, _, _, hnc, _⟩
      · simp [Builtin.append_, run_underlying Tryd.underlying23, Go.sizeOf, typeInfo, hi, Builtin.lenOf, Builtin.firstCells]
      · simp [Builtin.append_, run_underlying Tryd.underlying23, Go.sizeOf, typeInfo, hi, Builtin.lenOf, Builtin.firstCells, hnc, storeCells]
    | some ad =>
      obtain ⟨v', w', h1, h2, h3, _⟩ := run_append_own (P := Tryd.prog) w base 23 23 25 i _ 5 80 Tryd.underlying23 hi hz hs hb rfl (by decide) v n xs hown ad 0 c [] rfl (fun j u h => by simp at h) (fun u h => by simp at h) (by simp only [maxLen]; omega) (by omega) hbase
      exact ⟨v', w', h1, h2, h3⟩
  · obtain ⟨g, o, rfl, hc⟩ := hA (by omega)
    obtain ⟨v', w', h1, h2, h3, _⟩ := run_append_own (P := Tryd.prog) w base 23 23 25 i _ 5 80 Tryd.underlying23 hi hz hs hb rfl (by decide) v n xs hown ⟨g, o, none⟩ m c ck hl (fun j u h => by rw [add_flat]; exact hc j u h) h1 (by simp only [maxLen]; omega) (by omega) hbase
    exact ⟨v', w', h1, h2, h3⟩
/-- An append, by how it runs. -/
theorem wp_append_run {o : Oper} {a : Act} {w : World} {K : Act → World → Prop} {Q : Exit → Act → World → Prop} (s x : Operand) (t : TypeId)
    (ho : o.op = .call { callee := .builtin .append, args := #[s, x], argTypes := #[t, t] }) {v u v' : Value} {w' : World} (hs : a.eval s = v) (hx : a.eval x = u)
    (hr : (Builtin.append_ #[t, t] o.type #[v, u]).run Tryd.prog w = .ok v' w') (h : K (a.put o.dst v') w') : Oper.wp Tryd.prog o a w K Q := by
  unfold Oper.wp execOp
  simp only [ho, resolve, invoke, builtin, Sem.run_bind, Sem.run_pure, Result.andThen_ok, List.map_toArray, List.map_cons, List.map_nil, hs, hx, hr]
  exact h
theorem nv_src {w : World} {P : Nat → Prop} {ns : List ByteArray} {A : Option Addr} {c : Nat} (h : NV w P ns A c) (i : Nat) :
    0 < (ns.take i).length → ∃ g o, A = some ⟨g, o, none⟩ ∧ ∀ (j : Nat) (s : ByteArray), (ns.take i)[j]? = some s → w.cell? ⟨g, o + j, none⟩ = some (.string s) := fun h0 => by
  have h1 : 0 < ns.length := by rw [List.length_take] at h0; omega
  obtain ⟨g, o, e, _, _, k⟩ := h.2.2 h1
  refine ⟨g, o, e, fun j s hj => k j s ?_⟩
  rw [List.getElem?_take] at hj
  split at hj
  · exact hj
  · cases hj
theorem nv_drop {w : World} {P : Nat → Prop} {ns : List ByteArray} {A : Option Addr} {c : Nat} (h : NV w P ns A c) (i : Nat) :
    0 < (ns.drop i).length → ∃ g o, (if c = i then A else Option.map (fun x => x.add i) A) = some ⟨g, o, none⟩ ∧ ∀ (j : Nat) (s : ByteArray), (ns.drop i)[j]? = some s → w.cell? ⟨g, o + j, none⟩ = some (.string s) := fun h0 => by
  rw [List.length_drop] at h0
  have h2 := h.1
  obtain ⟨g, o, e, _, _, k⟩ := h.2.2 (by omega)
  subst e
  rw [if_neg (by omega)]
  refine ⟨g, o + i, by simp [Addr.add], fun j s hj => ?_⟩
  rw [List.getElem?_drop] at hj
  have := k _ s hj
  rw [← Nat.add_assoc] at this
  exact this
theorem tv_src {W wa : World} {T B : Nat} {P : Nat → Prop} {ps : List Vl} {A : Option Addr} {c : Nat} (hP : ∀ g, P g → g < B ∧ g ≠ T) (h : VV W P ps A c) (f : Fr T B W wa) (i : Nat) (hi : i ≤ ps.length) :
    ∃ ck, VL W P (ps.take i) ck ∧ ck.length = i * 5 ∧ (∀ u ∈ ck, u.oneCell' = true) ∧ (0 < i → ∃ g o, A = some ⟨g, o, none⟩ ∧ ∀ j u, ck[j]? = some u → wa.cell? ⟨g, o + j, none⟩ = some u) := by
  by_cases h0 : i = 0
  · subst h0
    exact ⟨[], by rw [List.take_zero, VL], rfl, (fun u hu => by cases hu), fun h => absurd h (by omega)⟩
  · obtain ⟨g, o, ck, e, hg, _, hc, tl⟩ := h.2 (by omega)
    have t2 := (VL.cut ps ck i tl).1
    have hl := VL.len _ _ t2
    rw [List.length_take (i := i) (l := ps), Nat.min_eq_left hi] at hl
    refine ⟨_, t2, hl, VL.cell1 _ _ t2, fun _ => ⟨g, o, e, fun j u hj => ?_⟩⟩
    rw [f.cell (hP g hg).1 (hP g hg).2]
    rw [List.getElem?_take] at hj
    split at hj
    · exact hc j u hj
    · cases hj
theorem tv_dr {W wa : World} {T B : Nat} {P : Nat → Prop} {ps : List Vl} {A : Option Addr} {c : Nat} (hP : ∀ g, P g → g < B ∧ g ≠ T) (h : VV W P ps A c) (f : Fr T B W wa) (i : Nat) (hi : i ≤ ps.length) :
    ∃ ck, VL W P (ps.drop i) ck ∧ ck.length = (ps.length - i) * 5 ∧ (∀ u ∈ ck, u.oneCell' = true) ∧ (0 < ps.length - i → ∃ g o, (if c = i then A else Option.map (fun x => x.add (i * 5)) A) = some ⟨g, o, none⟩ ∧ ∀ j u, ck[j]? = some u → wa.cell? ⟨g, o + j, none⟩ = some u) := by
  by_cases h0 : ps.length - i = 0
  · have e : ps.drop i = [] := List.drop_eq_nil_of_le (by omega)
    rw [e, h0]
    exact ⟨[], by rw [VL], rfl, (fun u hu => by cases hu), fun h => absurd h (by omega)⟩
  · obtain ⟨g, o, ck, e, hg, _, hc, tl⟩ := h.2 (by omega)
    have h1 := h.1
    have t2 := (VL.cut ps ck i tl).2
    have hl := VL.len _ _ t2
    rw [List.length_drop (i := i) (l := ps)] at hl
    subst e
    refine ⟨_, t2, hl, VL.cell1 _ _ t2, fun _ => ⟨g, o + i * 5, by rw [if_neg (by omega)]; simp [Addr.add], fun j u hj => ?_⟩⟩
    rw [f.cell (hP g hg).1 (hP g hg).2]
    rw [List.getElem?_drop] at hj
    have := hc _ u hj
    rw [← Nat.add_assoc] at this
    exact this
/-- One label more. -/
theorem rec_ins {ns : List ByteArray} {ps : List Vl} {t : Vl} {x : ByteArray} {p : Vl} {i k : Nat} (h : IsRec (ns.take k) (ps.take k) t) (hx : ns[k]? = some x) (hp : ps[k]? = some p)
    (h1 : ∀ y ∈ t.names.take i, lt y x = true) (h2 : ∀ y, t.names[i]? = some y → lt x y = true) : IsRec (ns.take (k + 1)) (ps.take (k + 1)) (.mk ⟨3, 0, ⟨#[]⟩⟩ (insAt t.names i x) (insAt t.parts i p)) := by
  have hk : k < ns.length := (List.getElem?_eq_some_iff.1 hx).1
  have hk' : k < ps.length := (List.getElem?_eq_some_iff.1 hp).1
  refine ⟨rfl, ins_rise i h.rise h1 h2, ?_, fun y q => ?_⟩
  · simp only [names_mk, parts_mk, insAt_len, h.len]
  · simp only [names_mk, parts_mk]
    rw [insAt_zip _ _ _ h.len, insAt_mem, h.mem, List.take_add_one, hx, List.take_add_one, hp, List.zip_append (by simp; omega), List.mem_append]
    simp only [Option.toList_some, List.zip_cons_cons, List.zip_nil_left, List.mem_singleton]
    constructor
    · rintro (h | h)
      · exact .inr h
      · exact .inl h
    · rintro (h | h)
      · exact .inr h
      · exact .inl h
theorem rec_start : IsRec [] [] (.mk ⟨3, 0, ⟨#[]⟩⟩ [] []) := ⟨rfl, rfl, rfl, fun _ _ => by simp⟩
theorem rec_names {ns : List ByteArray} {ps : List Vl} {t : Vl} (h : IsRec ns ps t) (hl : ns.length = ps.length) (x : ByteArray) : x ∈ t.names ↔ x ∈ ns := by
  constructor
  · intro hx
    rw [← zip_fst h.len, List.mem_map] at hx
    obtain ⟨⟨y, q⟩, hm, rfl⟩ := hx
    have := (h.mem y q).1 hm
    rw [← zip_fst hl, List.mem_map]
    exact ⟨_, this, rfl⟩
  · intro hx
    rw [← zip_fst hl, List.mem_map] at hx
    obtain ⟨⟨y, q⟩, hm, rfl⟩ := hx
    have := (h.mem y q).2 hm
    rw [← zip_fst h.len, List.mem_map]
    exact ⟨_, this, rfl⟩
theorem nodup_len' {α : Type} [DecidableEq α] : ∀ {l m : List α}, l.Nodup → (∀ x ∈ l, x ∈ m) → l.length ≤ m.length
  | [], _, _, _ => by simp
  | a :: l, m, hn, h => by
    have hn := List.nodup_cons.1 hn
    have ha := h a List.mem_cons_self
    have := nodup_len' (l := l) (m := m.erase a) hn.2 fun x hx => (List.mem_erase_of_ne (fun e => hn.1 (by rw [← e]; exact hx))).2 (h x (List.mem_cons_of_mem _ hx))
    rw [List.length_erase_of_mem ha] at this
    have hp := List.length_pos_of_mem ha
    rw [List.length_cons]
    omega
theorem nodup_len {l m : List ByteArray} (h : l.Nodup) (k : ∀ x ∈ l, x ∈ m) : l.length ≤ m.length := nodup_len' h k
variable {ns : List ByteArray} {ps : List Vl} {t : Vl}
theorem IsRec.names (h : IsRec ns ps t) {x : ByteArray} (hx : x ∈ t.names) : x ∈ ns := by
  rw [← zip_fst h.len, List.mem_map] at hx
  obtain ⟨⟨y, p⟩, hm, rfl⟩ := hx
  exact (List.of_mem_zip ((h.mem y p).1 hm)).1
theorem IsRec.len_le (h : IsRec ns ps t) : t.names.length ≤ ns.length := nodup_len (rise_nodup h.rise) fun _ hx => h.names hx

end Vm
end Go.Proofs.YtbjlhdjcdinmhaaDoor
