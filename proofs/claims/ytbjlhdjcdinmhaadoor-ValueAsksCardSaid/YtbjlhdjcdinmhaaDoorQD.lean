/- Values in memory. -/
import Derived.Test.YtbjlhdjcdinmhaaDoorQC
namespace Go.Proofs.YtbjlhdjcdinmhaaDoor
open Go.RowKit
namespace Vm
/-- A slice of names, in a block of P. -/
def NV (w : World) (P : Nat → Prop) (ns : List ByteArray) (A : Option Addr) (c : Nat) : Prop :=
  ns.length ≤ c ∧ (∀ s ∈ ns, s.size ≤ 140737488351232) ∧ (0 < ns.length → ∃ g o, A = some ⟨g, o, none⟩ ∧ P g ∧ g < w.heap.size ∧ ∀ i s, ns[i]? = some s → w.cell? ⟨g, o + i, none⟩ = some (.string s))
theorem NV.keep {w w' : World} {P Q : Nat → Prop} (hs : w.heap.size ≤ w'.heap.size) (hb : ∀ g, P g → g < w.heap.size → w'.heap[g]? = w.heap[g]? ∧ Q g) {ns : List ByteArray} {A : Option Addr} {c : Nat} (h : NV w P ns A c) : NV w' Q ns A c := by
  refine ⟨h.1, h.2.1, fun h0 => ?_⟩
  obtain ⟨g, o, e1, h1, h2, h3⟩ := h.2.2 h0
  obtain ⟨b1, b2⟩ := hb g h1 h2
  exact ⟨g, o, e1, b2, Nat.lt_of_lt_of_le h2 hs, fun j u hu => (World.cell?_of_block (w := w) b1).trans (h3 j u hu)⟩
theorem NV.below {w w' : World} {P : Nat → Prop} {ns : List ByteArray} {A : Option Addr} {c : Nat} (h : NV w P ns A c) (hb : Below w.heap.size w w') : NV w' P ns A c := h.keep hb.size (fun g hg hl => ⟨hb.block g hl, hg⟩)
theorem NV.mono {w : World} {P Q : Nat → Prop} {ns : List ByteArray} {A : Option Addr} {c : Nat} (h : NV w P ns A c) (hq : ∀ g, P g → Q g) : NV w Q ns A c := h.keep (Nat.le_refl _) (fun g hg _ => ⟨rfl, hq g hg⟩)
theorem NV.nil (w : World) (P : Nat → Prop) (A : Option Addr) (c : Nat) : NV w P [] A c := ⟨Nat.zero_le _, fun s hs => by simp at hs, fun h => by simp at h⟩
theorem NV.nth {w : World} {P : Nat → Prop} {ns : List ByteArray} {A : Option Addr} {c i : Nat} {s : ByteArray} (h : NV w P ns A c) (e : ns[i]? = some s) :
    ∃ g o, A = some ⟨g, o, none⟩ ∧ P g ∧ g < w.heap.size ∧ w.cell? ⟨g, o + i, none⟩ = some (.string s) ∧ s.size ≤ 140737488351232 := by
  have hl : 0 < ns.length := by have := (List.getElem?_eq_some_iff.1 e).1; omega
  obtain ⟨g, o, hA, hP, hg, hc⟩ := h.2.2 hl
  exact ⟨g, o, hA, hP, hg, hc i s e, h.2.1 s (List.mem_of_getElem? e)⟩
theorem NV.drop {w : World} {P : Nat → Prop} {ns : List ByteArray} {g o c : Nat} (h : NV w P ns (some ⟨g, o, none⟩) c) (n : Nat) (hn : n < ns.length) : NV w P (ns.drop n) (some ⟨g, o + n, none⟩) (c - n) := by
  refine ⟨by have := h.1; simp only [List.length_drop]; omega, fun s hs => h.2.1 s (List.mem_of_mem_drop hs), fun h0 => ?_⟩
  obtain ⟨g', o', e1, h1, h2, h3⟩ := h.2.2 (by omega)
  injection e1 with e1
  injection e1 with e1 e2
  subst e1 e2
  exact ⟨g, o + n, rfl, h1, h2, fun j u hu => by rw [Nat.add_assoc]; exact h3 _ u (by rw [List.getElem?_drop] at hu; exact hu)⟩
/-- A row of names that is one's own. -/
theorem NV.of_own {w : World} {base n cap : Nat} {Q : Nat → Prop} {A : Option Addr} {ns : List ByteArray} (h : w.ownsRow base 9 1 (.slice A n cap) n (ns.map Value.string)) (hn : n = ns.length) (hz : ∀ s ∈ ns, s.size ≤ 140737488351232) (hb : ∀ g, base ≤ g → (Value.slice A n cap).ownBlock = some g → Q g) (hc : n ≤ cap) : NV w Q ns A cap := by
  subst hn
  refine ⟨hc, hz, fun h0 => ?_⟩
  have hlt := h.lt
  rcases h.2 with ⟨hv, hx⟩ | ⟨g, cap', cur, hv, h1, h2, h3⟩
  · omega
  · injection hv with e1 _ _
    subst e1
    have := (hlt g rfl)
    refine ⟨g, 0, rfl, hb g this.1 rfl, this.2, fun j s hu => ?_⟩
    have := h.cells (g := g) rfl j (.string s) (by simp [hu])
    simp only [Addr.add] at this
    by_cases hj : j = 0 <;> simpa [hj] using this
abbrev vv (t : Vl) (An : Option Addr) (cn : Nat) (A : Option Addr) (c : Nat) : Value := .agg #[.int .i64 t.hd.kind, .int .i64 t.hd.n, .string t.hd.s, .slice An t.names.length cn, .slice A t.parts.length c]
abbrev vcs (t : Vl) (An : Option Addr) (cn : Nat) (A : Option Addr) (c : Nat) : List Value := [.int .i64 t.hd.kind, .int .i64 t.hd.n, .string t.hd.s, .slice An t.names.length cn, .slice A t.parts.length c]
mutual
/-- What a type's slices hold. -/
def VI (w : World) (P : Nat → Prop) : Vl → Option Addr → Nat → Option Addr → Nat → Prop
  | .mk _ ns ps, An, cn, A, c => NV w P ns An cn ∧ ps.length ≤ c ∧
      (0 < ps.length → ∃ (g o : Nat) (ck : List Value), A = some ⟨g, o, none⟩ ∧ P g ∧ g < w.heap.size ∧ (∀ j u, ck[j]? = some u → w.cell? ⟨g, o + j, none⟩ = some u) ∧ VL w P ps ck)
/-- Cells of types beside one another. -/
def VL (w : World) (P : Nat → Prop) : List Vl → List Value → Prop
  | [], cs => cs = []
  | t :: ts, cs => ∃ An cn A c cs', cs = vcs t An cn A c ++ cs' ∧ VI w P t An cn A c ∧ VL w P ts cs'
end
/-- A slice of types. -/
def VV (w : World) (P : Nat → Prop) (ps : List Vl) (A : Option Addr) (c : Nat) : Prop :=
  ps.length ≤ c ∧ (0 < ps.length → ∃ (g o : Nat) (ck : List Value), A = some ⟨g, o, none⟩ ∧ P g ∧ g < w.heap.size ∧ (∀ j u, ck[j]? = some u → w.cell? ⟨g, o + j, none⟩ = some u) ∧ VL w P ps ck)
theorem VI_iff {w : World} {P : Nat → Prop} : ∀ {t : Vl} {An : Option Addr} {cn : Nat} {A : Option Addr} {c : Nat}, VI w P t An cn A c ↔ NV w P t.names An cn ∧ VV w P t.parts A c
  | .mk _ _ _, _, _, _, _ => by rw [VI]; rfl
mutual
theorem VI.keep {w w' : World} {P Q : Nat → Prop} (hs : w.heap.size ≤ w'.heap.size) (hb : ∀ g, P g → g < w.heap.size → w'.heap[g]? = w.heap[g]? ∧ Q g) : ∀ (t : Vl) (An : Option Addr) (cn : Nat) (A : Option Addr) (c : Nat), VI w P t An cn A c → VI w' Q t An cn A c
  | .mk k ns ps, An, cn, A, c, h => by
    rw [VI] at h ⊢
    refine ⟨h.1.keep hs hb, h.2.1, fun h0 => ?_⟩
    obtain ⟨g, o, ck, e1, h1, h2, h3, h4⟩ := h.2.2 h0
    obtain ⟨b1, b2⟩ := hb g h1 h2
    exact ⟨g, o, ck, e1, b2, Nat.lt_of_lt_of_le h2 hs, fun j u hu => (World.cell?_of_block (w := w) b1).trans (h3 j u hu), VL.keep hs hb ps ck h4⟩
theorem VL.keep {w w' : World} {P Q : Nat → Prop} (hs : w.heap.size ≤ w'.heap.size) (hb : ∀ g, P g → g < w.heap.size → w'.heap[g]? = w.heap[g]? ∧ Q g) : ∀ (ts : List Vl) (cs : List Value), VL w P ts cs → VL w' Q ts cs
  | [], cs, h => by rw [VL] at h ⊢; exact h
  | t :: ts, cs, h => by
    rw [VL] at h ⊢
    obtain ⟨An, cn, A, c, cs', e, h1, h2⟩ := h
    exact ⟨An, cn, A, c, cs', e, VI.keep hs hb t An cn A c h1, VL.keep hs hb ts cs' h2⟩
end
theorem VV.keep {w w' : World} {P Q : Nat → Prop} (hs : w.heap.size ≤ w'.heap.size) (hb : ∀ g, P g → g < w.heap.size → w'.heap[g]? = w.heap[g]? ∧ Q g) {ps : List Vl} {A : Option Addr} {c : Nat} (h : VV w P ps A c) : VV w' Q ps A c := by
  refine ⟨h.1, fun h0 => ?_⟩
  obtain ⟨g, o, ck, e1, h1, h2, h3, h4⟩ := h.2 h0
  obtain ⟨b1, b2⟩ := hb g h1 h2
  exact ⟨g, o, ck, e1, b2, Nat.lt_of_lt_of_le h2 hs, fun j u hu => (World.cell?_of_block (w := w) b1).trans (h3 j u hu), VL.keep hs hb ps ck h4⟩
theorem VI.below {w w' : World} {P : Nat → Prop} {t : Vl} {An : Option Addr} {cn : Nat} {A : Option Addr} {c : Nat} (h : VI w P t An cn A c) (hb : Below w.heap.size w w') : VI w' P t An cn A c := h.keep hb.size (fun g hg hl => ⟨hb.block g hl, hg⟩)
theorem VV.below {w w' : World} {P : Nat → Prop} {ps : List Vl} {A : Option Addr} {c : Nat} (h : VV w P ps A c) (hb : Below w.heap.size w w') : VV w' P ps A c := h.keep hb.size (fun g hg hl => ⟨hb.block g hl, hg⟩)
theorem VL.below {w w' : World} {P : Nat → Prop} {ps : List Vl} {cs : List Value} (h : VL w P ps cs) (hb : Below w.heap.size w w') : VL w' P ps cs := h.keep hb.size (fun g hg hl => ⟨hb.block g hl, hg⟩)
theorem VI.mono {w : World} {P Q : Nat → Prop} {t : Vl} {An : Option Addr} {cn : Nat} {A : Option Addr} {c : Nat} (h : VI w P t An cn A c) (hq : ∀ g, P g → Q g) : VI w Q t An cn A c := h.keep (Nat.le_refl _) (fun g hg _ => ⟨rfl, hq g hg⟩)
theorem VV.mono {w : World} {P Q : Nat → Prop} {ps : List Vl} {A : Option Addr} {c : Nat} (h : VV w P ps A c) (hq : ∀ g, P g → Q g) : VV w Q ps A c := h.keep (Nat.le_refl _) (fun g hg _ => ⟨rfl, hq g hg⟩)
theorem VV.nil (w : World) (P : Nat → Prop) (A : Option Addr) (c : Nat) : VV w P [] A c := ⟨Nat.zero_le _, fun h => by simp at h⟩
theorem VL.len {w : World} {P : Nat → Prop} : ∀ (a : List Vl) (ca : List Value), VL w P a ca → ca.length = a.length * 5
  | [], ca, h => by rw [VL] at h; subst h; rfl
  | t :: ts, ca, h => by
    rw [VL] at h
    obtain ⟨An, cn, A, c, cs', e, h1, h2⟩ := h
    have := VL.len ts cs' h2
    rw [e, List.length_append, this]
    simp
    omega
theorem VL.cell1 {w : World} {P : Nat → Prop} : ∀ (a : List Vl) (ca : List Value), VL w P a ca → ∀ u ∈ ca, u.oneCell' = true
  | [], ca, h => by rw [VL] at h; subst h; simp
  | t :: ts, ca, h => by
    rw [VL] at h
    obtain ⟨An, cn, A, c, cs', e, h1, h2⟩ := h
    have := VL.cell1 ts cs' h2
    rw [e]
    intro u hu
    rcases List.mem_append.1 hu with h | h
    · simp at h
      rcases h with rfl | rfl | rfl | rfl | rfl <;> rfl
    · exact this u h
theorem VL.app {w : World} {P : Nat → Prop} : ∀ (a : List Vl) (ca : List Value) {b : List Vl} {cb : List Value}, VL w P a ca → VL w P b cb → VL w P (a ++ b) (ca ++ cb)
  | [], ca, b, cb, h, h' => by rw [VL] at h; subst h; exact h'
  | t :: ts, ca, b, cb, h, h' => by
    rw [VL] at h
    obtain ⟨An, cn, A, c, cs', e, h1, h2⟩ := h
    rw [List.cons_append, VL]
    exact ⟨An, cn, A, c, cs' ++ cb, by rw [e, List.append_assoc], h1, VL.app ts cs' h2 h'⟩
theorem VL.one {w : World} {P : Nat → Prop} {t : Vl} {An : Option Addr} {cn : Nat} {A : Option Addr} {c : Nat} (h : VI w P t An cn A c) : VL w P [t] (vcs t An cn A c) := by
  rw [VL]
  exact ⟨An, cn, A, c, [], by simp, h, by rw [VL]⟩
theorem VL.nth {w : World} {P : Nat → Prop} : ∀ (a : List Vl) (ca : List Value) (i : Nat) (t : Vl), VL w P a ca → a[i]? = some t →
    ∃ An cn A c, VI w P t An cn A c ∧ ∀ j u, (vcs t An cn A c)[j]? = some u → ca[i * 5 + j]? = some u
  | [], ca, i, t, h, e => by simp at e
  | t' :: ts, ca, 0, t, h, e => by
    obtain rfl : t' = t := by simpa using e
    rw [VL] at h
    obtain ⟨An, cn, A, c, cs', rfl, h1, h2⟩ := h
    refine ⟨An, cn, A, c, h1, fun j u hu => ?_⟩
    rw [Nat.zero_mul, Nat.zero_add, List.getElem?_append_left (List.getElem?_eq_some_iff.1 hu).1]
    exact hu
  | t' :: ts, ca, i + 1, t, h, e => by
    rw [VL] at h
    obtain ⟨An, cn, A, c, cs', rfl, h1, h2⟩ := h
    obtain ⟨An2, cn2, A2, c2, k1, k2⟩ := VL.nth ts cs' i t h2 (by simpa using e)
    refine ⟨An2, cn2, A2, c2, k1, fun j u hu => ?_⟩
    have := k2 j u hu
    rw [List.getElem?_append_right (by simp; omega)]
    rw [← this]
    congr 1
    simp only [List.length_cons, List.length_nil]
    omega
/-- The part number i of a slice of types. -/
theorem VV.nth {w : World} {P : Nat → Prop} {ps : List Vl} {A : Option Addr} {c i : Nat} {t : Vl} (h : VV w P ps A c) (e : ps[i]? = some t) :
    ∃ g o An cn A2 c2, A = some ⟨g, o, none⟩ ∧ P g ∧ g < w.heap.size ∧ VI w P t An cn A2 c2 ∧ w.cell? ⟨g, o + i * 5, none⟩ = some (.int .i64 t.hd.kind) ∧ w.cell? ⟨g, o + i * 5 + 1, none⟩ = some (.int .i64 t.hd.n) ∧ w.cell? ⟨g, o + i * 5 + 2, none⟩ = some (.string t.hd.s) ∧ w.cell? ⟨g, o + i * 5 + 3, none⟩ = some (.slice An t.names.length cn) ∧ w.cell? ⟨g, o + i * 5 + 4, none⟩ = some (.slice A2 t.parts.length c2) := by
  have hl : 0 < ps.length := by have := (List.getElem?_eq_some_iff.1 e).1; omega
  obtain ⟨g, o, ck, hA, hP, hg, hc, hf⟩ := h.2 hl
  obtain ⟨An, cn, A2, c2, h1, h2⟩ := VL.nth ps ck i t hf e
  have key := fun j u hu => hc _ _ (h2 j u hu)
  exact ⟨g, o, An, cn, A2, c2, hA, hP, hg, h1, key 0 _ rfl, key 1 _ rfl, key 2 _ rfl, key 3 _ rfl, key 4 _ rfl⟩
/-- A part of a slice of types, from its beginning. -/
theorem VL.cut {w : World} {P : Nat → Prop} : ∀ (a : List Vl) (ca : List Value) (n : Nat), VL w P a ca → VL w P (a.take n) (ca.take (n * 5)) ∧ VL w P (a.drop n) (ca.drop (n * 5))
  | [], ca, n, h => by rw [VL] at h; subst h; simp [VL]
  | t :: ts, ca, 0, h => by simp only [List.take_zero, List.drop_zero, Nat.zero_mul]; exact ⟨by rw [VL], h⟩
  | t :: ts, ca, n + 1, h => by
    rw [VL] at h
    obtain ⟨An, cn, A, c, cs', rfl, h1, h2⟩ := h
    obtain ⟨k1, k2⟩ := VL.cut ts cs' n h2
    have e : (n + 1) * 5 = (vcs t An cn A c).length + n * 5 := by simp only [List.length_cons, List.length_nil]; omega
    rw [e, List.take_length_add_append, List.drop_length_add_append, List.take_succ_cons, List.drop_succ_cons]
    refine ⟨?_, k2⟩
    rw [VL]
    exact ⟨An, cn, A, c, cs'.take (n * 5), rfl, h1, k1⟩
theorem VV.take {w : World} {P : Nat → Prop} {ps : List Vl} {A : Option Addr} {c : Nat} (h : VV w P ps A c) (n : Nat) : VV w P (ps.take n) A c := by
  refine ⟨by have := h.1; simp only [List.length_take]; omega, fun h0 => ?_⟩
  obtain ⟨g, o, ck, e1, h1, h2, h3, h4⟩ := h.2 (by simp only [List.length_take] at h0; omega)
  exact ⟨g, o, ck.take (n * 5), e1, h1, h2, fun j u hu => h3 j u (by rw [List.getElem?_take] at hu; split at hu; exact hu; cases hu), (VL.cut ps ck n h4).1⟩
theorem VV.drop {w : World} {P : Nat → Prop} {ps : List Vl} {g o c : Nat} (h : VV w P ps (some ⟨g, o, none⟩) c) (n : Nat) (hn : n < ps.length) : VV w P (ps.drop n) (some ⟨g, o + n * 5, none⟩) (c - n) := by
  refine ⟨by have := h.1; simp only [List.length_drop]; omega, fun h0 => ?_⟩
  obtain ⟨g', o', ck, e1, h1, h2, h3, h4⟩ := h.2 (by omega)
  injection e1 with e1
  injection e1 with e1 e2
  subst e1 e2
  exact ⟨g, o + n * 5, ck.drop (n * 5), rfl, h1, h2, fun j u hu => by rw [Nat.add_assoc]; exact h3 _ u (by rw [List.getElem?_drop] at hu; exact hu), (VL.cut ps ck n h4).2⟩
/-- A row that is one's own holds types. -/
theorem VV.of_own {w : World} {base e n cap : Nat} {P Q : Nat → Prop} {A : Option Addr} {k : List Vl} {cs : List Value} (h : w.ownsRow base e 5 (.slice A n cap) n cs) (hn : n = k.length) (hf : VL w P k cs) (hP : ∀ g, P g → Q g) (hb : ∀ g, base ≤ g → (Value.slice A n cap).ownBlock = some g → Q g) (hc : n ≤ cap) : VV w Q k A cap := by
  subst hn
  refine ⟨hc, fun h0 => ?_⟩
  have hlt := h.lt
  rcases h.2 with ⟨hv, hx⟩ | ⟨g, cap', cur, hv, h1, h2, h3⟩
  · omega
  · injection hv with e1 _ _
    subst e1
    have := (hlt g rfl)
    refine ⟨g, 0, cs, rfl, hb g this.1 rfl, this.2, fun j u hu => ?_, hf.keep (Nat.le_refl _) (fun g hg _ => ⟨rfl, hP g hg⟩)⟩
    have := h.cells (g := g) rfl j u hu
    simp only [Addr.add] at this
    by_cases hj : j = 0 <;> simpa [hj] using this
/-- A block just made holds types. -/
theorem VV.new {w : World} {g e : Nat} {P : Nat → Prop} {k : List Vl} {cs : Array Value} (h : RowB w g e cs) (hf : VL w P k cs.toList) (hb : P g) : VV w P k (some ⟨g, 0, none⟩) k.length :=
  ⟨Nat.le_refl _, fun _ => ⟨g, 0, cs.toList, rfl, hb, h.lt, fun j u hu => by rw [Nat.zero_add, h.cell j]; simpa using hu, hf⟩⟩
mutual
/-- How many types a type is. -/
def Vl.cnt : Vl → Nat
  | .mk _ ns ps => 1 + ns.length + cntL ps
def cntL : List Vl → Nat
  | [] => 0
  | t :: ts => t.cnt + cntL ts
end
theorem Vl.cnt_pos (t : Vl) : 0 < t.cnt := by cases t; rw [Vl.cnt]; omega
theorem cnt_mem {t : Vl} : ∀ {l : List Vl}, t ∈ l → t.cnt ≤ cntL l
  | a :: l, h => by
    rw [cntL]
    rcases List.mem_cons.1 h with rfl | h
    · omega
    · have := cnt_mem h; omega
theorem cnt_part {t p : Vl} (h : p ∈ t.parts) : p.cnt < t.cnt := by
  cases t
  rw [Vl.cnt]
  have := cnt_mem h
  simp only [parts_mk] at this
  omega
theorem cntL_len : ∀ l : List Vl, l.length ≤ cntL l
  | [] => Nat.zero_le _
  | t :: ts => by
    have := cntL_len ts
    have := t.cnt_pos
    rw [cntL, List.length_cons]; omega
theorem cnt_len (t : Vl) : t.parts.length < t.cnt := by
  cases t
  rw [Vl.cnt]
  have := cntL_len ‹List Vl›
  simp only [parts_mk]
  omega
theorem cnt_names (t : Vl) : t.names.length < t.cnt := by
  cases t
  rw [Vl.cnt]
  simp only [names_mk]
  omega
theorem depth_cnt : ∀ t : Vl, t.depth ≤ t.cnt := by
  refine Vl.ind fun k ns ps ih => ?_
  rw [Vl.depth, Vl.cnt]
  have : depthL ps ≤ cntL ps := depthL_le fun t ht => Nat.le_trans (ih t ht) (cnt_mem ht)
  omega
end Vm
end Go.Proofs.YtbjlhdjcdinmhaaDoor
