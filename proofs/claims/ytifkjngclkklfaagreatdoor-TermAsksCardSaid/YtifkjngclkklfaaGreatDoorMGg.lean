/- Types in memory. -/
import Derived.Test.YtifkjngclkklfaaGreatDoorMGf
import Derived.Deep.LoopGhost
namespace Go.Proofs.YtifkjngclkklfaaGreatDoor
open Go.RowKit
namespace Tm
abbrev tv (t : Ty) (An : Option Addr) (cn : Nat) (A : Option Addr) (c : Nat) : Value := .agg #[.int .i64 t.kind, .slice An t.names.length cn, .slice A t.parts.length c]
abbrev tcs (t : Ty) (An : Option Addr) (cn : Nat) (A : Option Addr) (c : Nat) : List Value := [.int .i64 t.kind, .slice An t.names.length cn, .slice A t.parts.length c]
/-- A slice of names, in a block of P. -/
def NV (w : World) (P : Nat → Prop) (ns : List ByteArray) (A : Option Addr) (c : Nat) : Prop :=
  ns.length ≤ c ∧ (∀ s ∈ ns, s.size ≤ 140737488351232) ∧ (0 < ns.length → ∃ g o, A = some ⟨g, o, none⟩ ∧ P g ∧ g < w.heap.size ∧ ∀ i s, ns[i]? = some s → w.cell? ⟨g, o + i, none⟩ = some (.string s))
mutual
/-- What a type's slices hold. -/
def TI (w : World) (P : Nat → Prop) : Ty → Option Addr → Nat → Option Addr → Nat → Prop
  | .mk _ ns ps, An, cn, A, c => NV w P ns An cn ∧ ps.length ≤ c ∧
      (0 < ps.length → ∃ (g o : Nat) (ck : List Value), A = some ⟨g, o, none⟩ ∧ P g ∧ g < w.heap.size ∧ (∀ j u, ck[j]? = some u → w.cell? ⟨g, o + j, none⟩ = some u) ∧ TL w P ps ck)
/-- Cells of types beside one another. -/
def TL (w : World) (P : Nat → Prop) : List Ty → List Value → Prop
  | [], cs => cs = []
  | t :: ts, cs => ∃ An cn A c cs', cs = tcs t An cn A c ++ cs' ∧ TI w P t An cn A c ∧ TL w P ts cs'
end
/-- A slice of types. -/
def TV (w : World) (P : Nat → Prop) (ps : List Ty) (A : Option Addr) (c : Nat) : Prop :=
  ps.length ≤ c ∧ (0 < ps.length → ∃ (g o : Nat) (ck : List Value), A = some ⟨g, o, none⟩ ∧ P g ∧ g < w.heap.size ∧ (∀ j u, ck[j]? = some u → w.cell? ⟨g, o + j, none⟩ = some u) ∧ TL w P ps ck)
theorem TI_iff {w : World} {P : Nat → Prop} : ∀ {t : Ty} {An : Option Addr} {cn : Nat} {A : Option Addr} {c : Nat}, TI w P t An cn A c ↔ NV w P t.names An cn ∧ TV w P t.parts A c
  | .mk _ _ _, _, _, _, _ => by rw [TI]; rfl
theorem NV.keep {w w' : World} {P Q : Nat → Prop} (hs : w.heap.size ≤ w'.heap.size) (hb : ∀ g, P g → g < w.heap.size → w'.heap[g]? = w.heap[g]? ∧ Q g) {ns : List ByteArray} {A : Option Addr} {c : Nat} (h : NV w P ns A c) : NV w' Q ns A c := by
  refine ⟨h.1, h.2.1, fun h0 => ?_⟩
  obtain ⟨g, o, e1, h1, h2, h3⟩ := h.2.2 h0
  obtain ⟨b1, b2⟩ := hb g h1 h2
  exact ⟨g, o, e1, b2, Nat.lt_of_lt_of_le h2 hs, fun j u hu => (World.cell?_of_block (w := w) b1).trans (h3 j u hu)⟩
mutual
theorem TI.keep {w w' : World} {P Q : Nat → Prop} (hs : w.heap.size ≤ w'.heap.size) (hb : ∀ g, P g → g < w.heap.size → w'.heap[g]? = w.heap[g]? ∧ Q g) : ∀ (t : Ty) (An : Option Addr) (cn : Nat) (A : Option Addr) (c : Nat), TI w P t An cn A c → TI w' Q t An cn A c
  | .mk k ns ps, An, cn, A, c, h => by
    rw [TI] at h ⊢
    refine ⟨h.1.keep hs hb, h.2.1, fun h0 => ?_⟩
    obtain ⟨g, o, ck, e1, h1, h2, h3, h4⟩ := h.2.2 h0
    obtain ⟨b1, b2⟩ := hb g h1 h2
    exact ⟨g, o, ck, e1, b2, Nat.lt_of_lt_of_le h2 hs, fun j u hu => (World.cell?_of_block (w := w) b1).trans (h3 j u hu), TL.keep hs hb ps ck h4⟩
theorem TL.keep {w w' : World} {P Q : Nat → Prop} (hs : w.heap.size ≤ w'.heap.size) (hb : ∀ g, P g → g < w.heap.size → w'.heap[g]? = w.heap[g]? ∧ Q g) : ∀ (ts : List Ty) (cs : List Value), TL w P ts cs → TL w' Q ts cs
  | [], cs, h => by rw [TL] at h ⊢; exact h
  | t :: ts, cs, h => by
    rw [TL] at h ⊢
    obtain ⟨An, cn, A, c, cs', e, h1, h2⟩ := h
    exact ⟨An, cn, A, c, cs', e, TI.keep hs hb t An cn A c h1, TL.keep hs hb ts cs' h2⟩
end
theorem TV.keep {w w' : World} {P Q : Nat → Prop} (hs : w.heap.size ≤ w'.heap.size) (hb : ∀ g, P g → g < w.heap.size → w'.heap[g]? = w.heap[g]? ∧ Q g) {ps : List Ty} {A : Option Addr} {c : Nat} (h : TV w P ps A c) : TV w' Q ps A c := by
  refine ⟨h.1, fun h0 => ?_⟩
  obtain ⟨g, o, ck, e1, h1, h2, h3, h4⟩ := h.2 h0
  obtain ⟨b1, b2⟩ := hb g h1 h2
  exact ⟨g, o, ck, e1, b2, Nat.lt_of_lt_of_le h2 hs, fun j u hu => (World.cell?_of_block (w := w) b1).trans (h3 j u hu), TL.keep hs hb ps ck h4⟩
theorem NV.below {w w' : World} {P : Nat → Prop} {ns : List ByteArray} {A : Option Addr} {c : Nat} (h : NV w P ns A c) (hb : Below w.heap.size w w') : NV w' P ns A c := h.keep hb.size (fun g hg hl => ⟨hb.block g hl, hg⟩)
theorem TI.below {w w' : World} {P : Nat → Prop} {t : Ty} {An : Option Addr} {cn : Nat} {A : Option Addr} {c : Nat} (h : TI w P t An cn A c) (hb : Below w.heap.size w w') : TI w' P t An cn A c := h.keep hb.size (fun g hg hl => ⟨hb.block g hl, hg⟩)
theorem TV.below {w w' : World} {P : Nat → Prop} {ps : List Ty} {A : Option Addr} {c : Nat} (h : TV w P ps A c) (hb : Below w.heap.size w w') : TV w' P ps A c := h.keep hb.size (fun g hg hl => ⟨hb.block g hl, hg⟩)
theorem TL.below {w w' : World} {P : Nat → Prop} {ps : List Ty} {cs : List Value} (h : TL w P ps cs) (hb : Below w.heap.size w w') : TL w' P ps cs := h.keep hb.size (fun g hg hl => ⟨hb.block g hl, hg⟩)
theorem NV.mono {w : World} {P Q : Nat → Prop} {ns : List ByteArray} {A : Option Addr} {c : Nat} (h : NV w P ns A c) (hq : ∀ g, P g → Q g) : NV w Q ns A c := h.keep (Nat.le_refl _) (fun g hg _ => ⟨rfl, hq g hg⟩)
theorem TI.mono {w : World} {P Q : Nat → Prop} {t : Ty} {An : Option Addr} {cn : Nat} {A : Option Addr} {c : Nat} (h : TI w P t An cn A c) (hq : ∀ g, P g → Q g) : TI w Q t An cn A c := h.keep (Nat.le_refl _) (fun g hg _ => ⟨rfl, hq g hg⟩)
theorem TV.mono {w : World} {P Q : Nat → Prop} {ps : List Ty} {A : Option Addr} {c : Nat} (h : TV w P ps A c) (hq : ∀ g, P g → Q g) : TV w Q ps A c := h.keep (Nat.le_refl _) (fun g hg _ => ⟨rfl, hq g hg⟩)
theorem NV.nil (w : World) (P : Nat → Prop) (A : Option Addr) (c : Nat) : NV w P [] A c := ⟨Nat.zero_le _, fun s hs => by simp at hs, fun h => by simp at h⟩
theorem TV.nil (w : World) (P : Nat → Prop) (A : Option Addr) (c : Nat) : TV w P [] A c := ⟨Nat.zero_le _, fun h => by simp at h⟩
theorem TL.len {w : World} {P : Nat → Prop} : ∀ (a : List Ty) (ca : List Value), TL w P a ca → ca.length = a.length * 3
  | [], ca, h => by rw [TL] at h; subst h; rfl
  | t :: ts, ca, h => by
    rw [TL] at h
    obtain ⟨An, cn, A, c, cs', e, h1, h2⟩ := h
    have := TL.len ts cs' h2
    rw [e, List.length_append, this]
    simp
    omega
theorem TL.cell1 {w : World} {P : Nat → Prop} : ∀ (a : List Ty) (ca : List Value), TL w P a ca → ∀ u ∈ ca, u.oneCell' = true
  | [], ca, h => by rw [TL] at h; subst h; simp
  | t :: ts, ca, h => by
    rw [TL] at h
    obtain ⟨An, cn, A, c, cs', e, h1, h2⟩ := h
    have := TL.cell1 ts cs' h2
    rw [e]
    intro u hu
    rcases List.mem_append.1 hu with h | h
    · simp at h
      rcases h with rfl | rfl | rfl <;> rfl
    · exact this u h
theorem TL.app {w : World} {P : Nat → Prop} : ∀ (a : List Ty) (ca : List Value) {b : List Ty} {cb : List Value}, TL w P a ca → TL w P b cb → TL w P (a ++ b) (ca ++ cb)
  | [], ca, b, cb, h, h' => by rw [TL] at h; subst h; exact h'
  | t :: ts, ca, b, cb, h, h' => by
    rw [TL] at h
    obtain ⟨An, cn, A, c, cs', e, h1, h2⟩ := h
    rw [List.cons_append, TL]
    exact ⟨An, cn, A, c, cs' ++ cb, by rw [e, List.append_assoc], h1, TL.app ts cs' h2 h'⟩
theorem TL.one {w : World} {P : Nat → Prop} {t : Ty} {An : Option Addr} {cn : Nat} {A : Option Addr} {c : Nat} (h : TI w P t An cn A c) : TL w P [t] (tcs t An cn A c) := by
  rw [TL]
  exact ⟨An, cn, A, c, [], by simp, h, by rw [TL]⟩
theorem TL.nth {w : World} {P : Nat → Prop} : ∀ (a : List Ty) (ca : List Value) (i : Nat) (t : Ty), TL w P a ca → a[i]? = some t →
    ∃ An cn A c, TI w P t An cn A c ∧ ∀ j u, (tcs t An cn A c)[j]? = some u → ca[i * 3 + j]? = some u
  | [], ca, i, t, h, e => by simp at e
  | t' :: ts, ca, 0, t, h, e => by
    obtain rfl : t' = t := by simpa using e
    rw [TL] at h
    obtain ⟨An, cn, A, c, cs', rfl, h1, h2⟩ := h
    refine ⟨An, cn, A, c, h1, fun j u hu => ?_⟩
    rw [Nat.zero_mul, Nat.zero_add, List.getElem?_append_left (List.getElem?_eq_some_iff.1 hu).1]
    exact hu
  | t' :: ts, ca, i + 1, t, h, e => by
    rw [TL] at h
    obtain ⟨An, cn, A, c, cs', rfl, h1, h2⟩ := h
    obtain ⟨An2, cn2, A2, c2, k1, k2⟩ := TL.nth ts cs' i t h2 (by simpa using e)
    refine ⟨An2, cn2, A2, c2, k1, fun j u hu => ?_⟩
    have := k2 j u hu
    rw [List.getElem?_append_right (by simp; omega)]
    rw [← this]
    congr 1
    simp only [List.length_cons, List.length_nil]
    omega
/-- The part number i of a slice of types. -/
theorem TV.nth {w : World} {P : Nat → Prop} {ps : List Ty} {A : Option Addr} {c i : Nat} {t : Ty} (h : TV w P ps A c) (e : ps[i]? = some t) :
    ∃ g o An cn A2 c2, A = some ⟨g, o, none⟩ ∧ P g ∧ g < w.heap.size ∧ TI w P t An cn A2 c2 ∧ w.cell? ⟨g, o + i * 3, none⟩ = some (.int .i64 t.kind) ∧ w.cell? ⟨g, o + i * 3 + 1, none⟩ = some (.slice An t.names.length cn) ∧ w.cell? ⟨g, o + i * 3 + 2, none⟩ = some (.slice A2 t.parts.length c2) := by
  have hl : 0 < ps.length := by have := (List.getElem?_eq_some_iff.1 e).1; omega
  obtain ⟨g, o, ck, hA, hP, hg, hc, hf⟩ := h.2 hl
  obtain ⟨An, cn, A2, c2, h1, h2⟩ := TL.nth ps ck i t hf e
  have key := fun j u hu => hc _ _ (h2 j u hu)
  exact ⟨g, o, An, cn, A2, c2, hA, hP, hg, h1, key 0 _ rfl, key 1 _ rfl, key 2 _ rfl⟩
theorem NV.nth {w : World} {P : Nat → Prop} {ns : List ByteArray} {A : Option Addr} {c i : Nat} {s : ByteArray} (h : NV w P ns A c) (e : ns[i]? = some s) :
    ∃ g o, A = some ⟨g, o, none⟩ ∧ P g ∧ g < w.heap.size ∧ w.cell? ⟨g, o + i, none⟩ = some (.string s) ∧ s.size ≤ 140737488351232 := by
  have hl : 0 < ns.length := by have := (List.getElem?_eq_some_iff.1 e).1; omega
  obtain ⟨g, o, hA, hP, hg, hc⟩ := h.2.2 hl
  exact ⟨g, o, hA, hP, hg, hc i s e, h.2.1 s (List.mem_of_getElem? e)⟩
/-- A part of a slice of types, from its beginning. -/
theorem TL.cut {w : World} {P : Nat → Prop} : ∀ (a : List Ty) (ca : List Value) (n : Nat), TL w P a ca → TL w P (a.take n) (ca.take (n * 3)) ∧ TL w P (a.drop n) (ca.drop (n * 3))
  | [], ca, n, h => by rw [TL] at h; subst h; simp [TL]
  | t :: ts, ca, 0, h => by simp only [List.take_zero, List.drop_zero, Nat.zero_mul]; exact ⟨by rw [TL], h⟩
  | t :: ts, ca, n + 1, h => by
    rw [TL] at h
    obtain ⟨An, cn, A, c, cs', rfl, h1, h2⟩ := h
    obtain ⟨k1, k2⟩ := TL.cut ts cs' n h2
    have e : (n + 1) * 3 = (tcs t An cn A c).length + n * 3 := by simp only [List.length_cons, List.length_nil]; omega
    rw [e, List.take_length_add_append, List.drop_length_add_append, List.take_succ_cons, List.drop_succ_cons]
    refine ⟨?_, k2⟩
    rw [TL]
    exact ⟨An, cn, A, c, cs'.take (n * 3), rfl, h1, k1⟩
theorem TV.take {w : World} {P : Nat → Prop} {ps : List Ty} {A : Option Addr} {c : Nat} (h : TV w P ps A c) (n : Nat) : TV w P (ps.take n) A c := by
  refine ⟨by have := h.1; simp only [List.length_take]; omega, fun h0 => ?_⟩
  obtain ⟨g, o, ck, e1, h1, h2, h3, h4⟩ := h.2 (by simp only [List.length_take] at h0; omega)
  exact ⟨g, o, ck.take (n * 3), e1, h1, h2, fun j u hu => h3 j u (by rw [List.getElem?_take] at hu; split at hu; exact hu; cases hu), (TL.cut ps ck n h4).1⟩
theorem TV.drop {w : World} {P : Nat → Prop} {ps : List Ty} {g o c : Nat} (h : TV w P ps (some ⟨g, o, none⟩) c) (n : Nat) (hn : n < ps.length) : TV w P (ps.drop n) (some ⟨g, o + n * 3, none⟩) (c - n) := by
  refine ⟨by have := h.1; simp only [List.length_drop]; omega, fun h0 => ?_⟩
  obtain ⟨g', o', ck, e1, h1, h2, h3, h4⟩ := h.2 (by omega)
  injection e1 with e1
  injection e1 with e1 e2
  subst e1 e2
  exact ⟨g, o + n * 3, ck.drop (n * 3), rfl, h1, h2, fun j u hu => by rw [Nat.add_assoc]; exact h3 _ u (by rw [List.getElem?_drop] at hu; exact hu), (TL.cut ps ck n h4).2⟩
theorem NV.drop {w : World} {P : Nat → Prop} {ns : List ByteArray} {g o c : Nat} (h : NV w P ns (some ⟨g, o, none⟩) c) (n : Nat) (hn : n < ns.length) : NV w P (ns.drop n) (some ⟨g, o + n, none⟩) (c - n) := by
  refine ⟨by have := h.1; simp only [List.length_drop]; omega, fun s hs => h.2.1 s (List.mem_of_mem_drop hs), fun h0 => ?_⟩
  obtain ⟨g', o', e1, h1, h2, h3⟩ := h.2.2 (by omega)
  injection e1 with e1
  injection e1 with e1 e2
  subst e1 e2
  exact ⟨g, o + n, rfl, h1, h2, fun j u hu => by rw [Nat.add_assoc]; exact h3 _ u (by rw [List.getElem?_drop] at hu; exact hu)⟩
/-- A row that is one's own holds types. -/
theorem TV.of_own {w : World} {base n cap : Nat} {P Q : Nat → Prop} {A : Option Addr} {k : List Ty} {cs : List Value} (h : w.ownsRow base 25 3 (.slice A n cap) n cs) (hn : n = k.length) (hf : TL w P k cs) (hP : ∀ g, P g → Q g) (hb : ∀ g, base ≤ g → (Value.slice A n cap).ownBlock = some g → Q g) (hc : n ≤ cap) : TV w Q k A cap := by
  subst hn
  refine ⟨hc, fun h0 => ?_⟩
  have hlt := h.lt
  rcases h.2 with ⟨hv, hx⟩ | ⟨g, cap', cur, hv, h1, h2, h3⟩
  · omega
  · injection hv with e1 _ _
    subst e1
    have := (hlt g rfl)
    refine ⟨g, 0, cs, rfl, hb g this.1 rfl, this.2, fun j u hu => ?_, hf.keep (Nat.le_refl _) (fun g hg _ => ⟨rfl, hP g hg⟩)⟩
    have := h.cells (g := g) rfl j u hu
    simp only [Addr.add] at this
    by_cases hj : j = 0 <;> simpa [hj] using this
/-- A row of names that is one's own. -/
theorem NV.of_own {w : World} {base n cap : Nat} {Q : Nat → Prop} {A : Option Addr} {ns : List ByteArray} (h : w.ownsRow base 9 1 (.slice A n cap) n (ns.map Value.string)) (hn : n = ns.length) (hz : ∀ s ∈ ns, s.size ≤ 140737488351232) (hb : ∀ g, base ≤ g → (Value.slice A n cap).ownBlock = some g → Q g) (hc : n ≤ cap) : NV w Q ns A cap := by
  subst hn
  refine ⟨hc, hz, fun h0 => ?_⟩
  have hlt := h.lt
  rcases h.2 with ⟨hv, hx⟩ | ⟨g, cap', cur, hv, h1, h2, h3⟩
  · omega
  · injection hv with e1 _ _
    subst e1
    have := (hlt g rfl)
    refine ⟨g, 0, rfl, hb g this.1 rfl, this.2, fun j s hu => ?_⟩
    have := h.cells (g := g) rfl j (.string s) (by simp [hu])
    simp only [Addr.add] at this
    by_cases hj : j = 0 <;> simpa [hj] using this
/-- A block just made holds types. -/
theorem TV.new {w : World} {g : Nat} {P : Nat → Prop} {k : List Ty} {cs : Array Value} (h : RowB w g 25 cs) (hf : TL w P k cs.toList) (hb : P g) : TV w P k (some ⟨g, 0, none⟩) k.length :=
  ⟨Nat.le_refl _, fun _ => ⟨g, 0, cs.toList, rfl, hb, h.lt, fun j u hu => by rw [Nat.zero_add, h.cell j]; simpa using hu, hf⟩⟩
mutual
/-- How many types a type is. -/
def Ty.cnt : Ty → Nat
  | .mk _ ns ps => 1 + ns.length + cntL ps
def cntL : List Ty → Nat
  | [] => 0
  | t :: ts => t.cnt + cntL ts
end
theorem Ty.cnt_pos (t : Ty) : 0 < t.cnt := by cases t; rw [Ty.cnt]; omega
theorem cnt_mem {t : Ty} : ∀ {l : List Ty}, t ∈ l → t.cnt ≤ cntL l
  | a :: l, h => by
    rw [cntL]
    rcases List.mem_cons.1 h with rfl | h
    · omega
    · have := cnt_mem h; omega
theorem cnt_part {t p : Ty} (h : p ∈ t.parts) : p.cnt < t.cnt := by
  cases t
  rw [Ty.cnt]
  have := cnt_mem h
  simp only [parts_mk] at this
  omega
theorem cntL_len : ∀ l : List Ty, l.length ≤ cntL l
  | [] => Nat.zero_le _
  | t :: ts => by
    have := cntL_len ts
    have := t.cnt_pos
    rw [cntL, List.length_cons]; omega
theorem cnt_len (t : Ty) : t.parts.length < t.cnt := by
  cases t
  rw [Ty.cnt]
  have := cntL_len ‹List Ty›
  simp only [parts_mk]
  omega
theorem cnt_names (t : Ty) : t.names.length < t.cnt := by
  cases t
  rw [Ty.cnt]
  simp only [names_mk]
  omega
theorem depth_cnt : ∀ t : Ty, t.depth ≤ t.cnt := by
  refine Ty.ind fun k ns ps ih => ?_
  rw [Ty.depth, Ty.cnt]
  have : depthL ps ≤ cntL ps := depthL_le fun t ht => Nat.le_trans (ih t ht) (cnt_mem ht)
  omega
end Tm
end Go.Proofs.YtifkjngclkklfaaGreatDoor
/- Contracts: how deep a type is: the document's way, the program's. -/
namespace Go.Proofs.YtifkjngclkklfaaGreatDoor
open Go.RowKit
namespace Tm
theorem depthL_take : ∀ (l : List Ty) (i : Nat) (t : Ty), l[i]? = some t → depthL (l.take (i + 1)) = max (depthL (l.take i)) t.depth
  | [], i, t, h => by simp at h
  | a :: l, 0, t, h => by
    obtain rfl : a = t := by simpa using h
    simp [depthL]
  | a :: l, i + 1, t, h => by
    rw [List.take_succ_cons, List.take_succ_cons, depthL, depthL, depthL_take l i t (by simpa using h)]
    omega
theorem get_of_lt {l : List Ty} {i : Nat} (h : i < l.length) : ∃ t, l[i]? = some t := ⟨l[i], List.getElem?_eq_getElem h⟩

set_option maxHeartbeats 4000000 in
set_option maxRecDepth 100000 in
theorem rdepth_step (ps : List Ty) (hl : cntL ps ≤ 1000001)
    (IH : ∀ p ∈ ps, ∀ (w : World) (P : Nat → Prop) (An : Option Addr) (cn : Nat) (A : Option Addr) (c : Nat), TI w P p An cn A c → Calls Tryz.prog 17 #[tv p An cn A c] w fun e w' => e = .returned (.int .i64 p.depth) ∧ Below w.heap.size w w')
    (w : World) (P : Nat → Prop) (k : Int) (An : Option Addr) (m cn : Nat) (A : Option Addr) (c : Nat) (h : TV w P ps A c) (r : Nat) (hr : r = 1 + depthL ps) :
    Calls Tryz.prog 17 #[.agg #[.int .i64 k, .slice An m cn, .slice A ps.length c]] w fun e w' => e = .returned (.int .i64 (r : Int)) ∧ Below w.heap.size w w' := by
  obtain ⟨n, hn⟩ : ∃ n, n = ps.length := ⟨_, rfl⟩
  have hn1 : n ≤ 1000001 := by have := cntL_len ps; omega
  rw [← hn]
  have HK := Lib.hid (h.below (bel1 w (.cells #[.int .i64 k, .slice An m cn, .slice A n c] 25)))
  have R0 := Lib.hid (RowB.new w 25 #[.int .i64 k, .slice An m cn, .slice A n c])
  have B0 := Lib.hid (bel1 w (.cells #[.int .i64 k, .slice An m cn, .slice A n c] 25))
  have HI := Lib.hid IH
  have HN := Lib.hid hn
  have HD : Hid (∀ p ∈ ps, p.depth ≤ 1000001) := fun p hp => Nat.le_trans (depth_cnt p) (Nat.le_trans (cnt_mem hp) hl)
  have rc := R0.out.cell
  have HR := Lib.hid hr
  clear h IH hn hl hr
  go_enter Tryz.func17, Tryz.ntmps17
  go_wp2_with fail
  obtain ⟨W, hW⟩ : ∃ W, W = w.alloc (.cells #[.int .i64 k, .slice An m cn, .slice A n c] 25) := ⟨_, rfl⟩
  rw [← hW] at HK R0 B0 rc ⊢
  clear hW rc
  go_loopg [3, 4] (n + 1) (fun kx s3 s4 wr => ∃ (i d : Nat), s3 = .int .i64 d ∧ s4 = .int .i64 i ∧ n - i ≤ kx ∧ i ≤ n ∧ d ≤ 1000002 ∧ Hid (d = 1 + depthL (ps.take i)) ∧ Hid (Below W.heap.size W wr))
  case atStart => exact ⟨0, 1, rfl, rfl, by omega, by omega, by omega, by simp [Hid, depthL], Below.refl _ _⟩
  case round =>
    obtain ⟨i, d, rfl, rfl, hkx, hin, hd, HDD, HB⟩ := hrel
    have R1 := Lib.hid (R0.out.below HB.out R0.out.lt)
    have rc := R1.out.cell
    by_cases hi : i < n
    · have hil : (i : Int) < (n : Int) := by omega
      obtain ⟨t, e⟩ := get_of_lt (l := ps) (i := i) (by rw [← HN.out]; exact hi)
      obtain ⟨g, o, An2, cn2, A2, c2, hA, hP, hg, hti, z0, z1, z2⟩ := (HK.out.below HB.out).nth e
      have hm := List.mem_of_getElem? e
      have CC := Lib.hid (HI.out t hm wr P An2 cn2 A2 c2 hti)
      have hdt := HD.out t hm
      have HT := Lib.hid (depthL_take ps i t e)
      obtain ⟨dt, hdt2⟩ : ∃ dt, dt = t.depth := ⟨_, rfl⟩
      rw [← hdt2] at CC hdt HT
      subst hA
      obtain ⟨j, hj⟩ : ∃ j, j = i + 1 := ⟨_, rfl⟩
      obtain ⟨kt, nt, pt⟩ := t
      simp only [kind_mk, names_mk, parts_mk] at z0 z1 z2 CC
      clear e hti hm hdt2
      go_wp2_with fail
      refine CC.out.mono ?_
      rintro e w2 ⟨rfl, h2⟩
      have HB2 := Lib.hid (HB.out.trans (h2.mono HB.out.size))
      clear h2 CC z0 z1 z2 rc
      by_cases hlt : d < dt + 1
      · have hlt2 : (d : Int) < (dt : Int) + 1 := by omega
        go_wp2_with fail
        go_roundg (n - j)
        case measure => omega
        case rel => exact ⟨j, dt + 1, by simp, by rw [hj]; go_num, by omega, by omega, by omega, by have := HDD.out; have := HT.out; show _ = _; rw [hj]; omega, HB2.out⟩
      · have hlt2 : ¬ (d : Int) < (dt : Int) + 1 := by omega
        go_wp2_with fail
        go_roundg (n - j)
        case measure => omega
        case rel => exact ⟨j, d, rfl, by rw [hj]; go_num, by omega, by omega, by omega, by have := HDD.out; have := HT.out; show _ = _; rw [hj]; omega, HB2.out⟩
    · have hil : ¬ (i : Int) < (n : Int) := by omega
      go_wp2_with fail
      (first | go_ret | go_ret2)
      refine ⟨?_, B0.out.trans (HB.out.mono B0.out.size)⟩
      have h1 := HDD.out
      rw [List.take_of_length_le (by rw [← HN.out]; omega)] at h1
      rw [HR.out, ← h1]
      rfl
theorem rdepth_any : ∀ t : Ty, t.cnt ≤ 1000001 → ∀ (w : World) (P : Nat → Prop) (An : Option Addr) (cn : Nat) (A : Option Addr) (c : Nat), TI w P t An cn A c → Calls Tryz.prog 17 #[tv t An cn A c] w fun e w' => e = .returned (.int .i64 t.depth) ∧ Below w.heap.size w w' := by
  refine Ty.ind fun k ns ps ih hc w P An cn A c h => ?_
  rw [Ty.cnt] at hc
  rw [Ty.depth]
  exact rdepth_step ps (by omega) (fun p hp => ih p hp (by have := cnt_mem hp; omega)) w P k An ns.length cn A c (TI_iff.1 h).2 _ rfl
end Tm
end Go.Proofs.YtifkjngclkklfaaGreatDoor
/- Contracts: how deep a type is, by the program; what is asked of each of some types. -/
namespace Go.Proofs.YtifkjngclkklfaaGreatDoor
open Go.RowKit
namespace Tm

set_option maxHeartbeats 4000000 in
set_option maxRecDepth 100000 in
theorem pdepth_step (ps : List Ty) (hl : cntL ps ≤ 1000001)
    (IH : ∀ p ∈ ps, ∀ (w : World) (P : Nat → Prop) (An : Option Addr) (cn : Nat) (A : Option Addr) (c : Nat), TI w P p An cn A c → Calls Tryz.prog 16 #[tv p An cn A c] w fun e w' => e = .returned (.int .i64 p.depth) ∧ Below w.heap.size w w')
    (w : World) (P : Nat → Prop) (k : Int) (An : Option Addr) (m cn : Nat) (A : Option Addr) (c : Nat) (h : TV w P ps A c) (r : Nat) (hr : r = 1 + depthL ps) :
    Calls Tryz.prog 16 #[.agg #[.int .i64 k, .slice An m cn, .slice A ps.length c]] w fun e w' => e = .returned (.int .i64 (r : Int)) ∧ Below w.heap.size w w' := by
  obtain ⟨n, hn⟩ : ∃ n, n = ps.length := ⟨_, rfl⟩
  have hn1 : n ≤ 1000001 := by have := cntL_len ps; omega
  rw [← hn]
  have HK := Lib.hid (h.below (bel1 w (.cells #[.int .i64 k, .slice An m cn, .slice A n c] 25)))
  have R0 := Lib.hid (RowB.new w 25 #[.int .i64 k, .slice An m cn, .slice A n c])
  have B0 := Lib.hid (bel1 w (.cells #[.int .i64 k, .slice An m cn, .slice A n c] 25))
  have HI := Lib.hid IH
  have HN := Lib.hid hn
  have HR := Lib.hid hr
  have HD : Hid (∀ p ∈ ps, p.depth ≤ 1000001) := fun p hp => Nat.le_trans (depth_cnt p) (Nat.le_trans (cnt_mem hp) hl)
  have rc := R0.out.cell
  clear h IH hn hl hr
  go_enter Tryz.func16, Tryz.ntmps16
  go_wp2_with fail
  obtain ⟨W, hW⟩ : ∃ W, W = w.alloc (.cells #[.int .i64 k, .slice An m cn, .slice A n c] 25) := ⟨_, rfl⟩
  rw [← hW] at HK R0 B0 rc ⊢
  clear hW rc
  go_loopg [3, 9] (n + 1) (fun kx s3 s9 wr => ∃ (i d : Nat), s3 = .int .i64 d ∧ s9 = .int .i64 i ∧ n - i ≤ kx ∧ i ≤ n ∧ d ≤ 1000001 ∧ Hid (d = depthL (ps.take i)) ∧ Hid (Below W.heap.size W wr))
  case atStart => exact ⟨0, 0, rfl, rfl, by omega, by omega, by omega, by simp [Hid, depthL], Below.refl _ _⟩
  case round =>
    obtain ⟨i, d, rfl, rfl, hkx, hin, hd, HDD, HB⟩ := hrel
    by_cases hi : i < n
    · have hil : (i : Int) < (n : Int) := by omega
      obtain ⟨t, e⟩ := get_of_lt (l := ps) (i := i) (by rw [← HN.out]; exact hi)
      obtain ⟨g, o, An2, cn2, A2, c2, hA, hP, hg, hti, z0, z1, z2⟩ := (HK.out.below HB.out).nth e
      have hm := List.mem_of_getElem? e
      have hdt := HD.out t hm
      have HT := Lib.hid (depthL_take ps i t e)
      obtain ⟨j, hj⟩ : ∃ j, j = i + 1 := ⟨_, rfl⟩
      have q1 : Below wr.heap.size wr (wr.alloc (.cells #[.int .i64 t.kind, .slice An2 t.names.length cn2, .slice A2 t.parts.length c2] 25)) := bel1 wr _
      have CC := Lib.hid (HI.out t hm _ P An2 cn2 A2 c2 (hti.below q1))
      have r1 := (RowB.new wr 25 #[.int .i64 t.kind, .slice An2 t.names.length cn2, .slice A2 t.parts.length c2]).cell
      have HB1 := Lib.hid (HB.out.trans (q1.mono HB.out.size))
      obtain ⟨dt, hdt2⟩ : ∃ dt, dt = t.depth := ⟨_, rfl⟩
      rw [← hdt2] at CC hdt HT
      subst hA
      obtain ⟨kt, nt, pt⟩ := t
      simp only [kind_mk, names_mk, parts_mk] at z0 z1 z2 CC r1 HB1
      clear e hti hm hdt2 q1
      go_wp2_with fail
      refine CC.out.mono ?_
      rintro e w2 ⟨rfl, h2⟩
      have HB2 := Lib.hid (HB1.out.trans (h2.mono HB1.out.size))
      clear h2 CC z0 z1 z2 r1
      go_wp2_with fail
      go_roundg (n - j)
      case measure => omega
      case rel => exact ⟨j, max d dt, by first | rfl | (congr 1; omega) | simp, by rw [hj]; go_num, by omega, by omega, by omega, by have := HDD.out; have := HT.out; show _ = _; rw [hj]; omega, HB2.out⟩
    · have hil : ¬ (i : Int) < (n : Int) := by omega
      go_wp2_with fail
      (first | go_ret | go_ret2)
      refine ⟨?_, B0.out.trans (HB.out.mono B0.out.size)⟩
      have h1 := HDD.out
      rw [List.take_of_length_le (by rw [← HN.out]; omega)] at h1
      rw [HR.out, ← h1]
      simp
theorem pdepth_any : ∀ t : Ty, t.cnt ≤ 1000001 → ∀ (w : World) (P : Nat → Prop) (An : Option Addr) (cn : Nat) (A : Option Addr) (c : Nat), TI w P t An cn A c → Calls Tryz.prog 16 #[tv t An cn A c] w fun e w' => e = .returned (.int .i64 t.depth) ∧ Below w.heap.size w w' := by
  refine Ty.ind fun k ns ps ih hc w P An cn A c h => ?_
  rw [Ty.cnt] at hc
  rw [Ty.depth]
  exact pdepth_step ps (by omega) (fun p hp => ih p hp (by have := cnt_mem hp; omega)) w P k An ns.length cn A c (TI_iff.1 h).2 _ rfl

/-- A function value that answers q of each of some types. -/
def AskV (w : World) (v : Value) (ps : List Ty) (q : Ty → Bool) : Prop :=
  ∃ F caps, v = .func (.func F) #[] caps ∧ (∀ v w, (callFunc F (#[v] ++ caps)).run Tryz.prog w = .ok (.enter F (#[v] ++ caps)) w) ∧
    ∀ p ∈ ps, ∀ (w' : World) (P : Nat → Prop) (An : Option Addr) (cn : Nat) (A : Option Addr) (c : Nat), Below w.heap.size w w' → TI w' P p An cn A c → Calls Tryz.prog F (#[tv p An cn A c] ++ caps) w' fun e w2 => e = .returned (.bool (q p)) ∧ Below w'.heap.size w' w2
theorem AskV.below {w w' : World} {v : Value} {ps : List Ty} {q : Ty → Bool} (h : AskV w v ps q) (hb : Below w.heap.size w w') : AskV w' v ps q := by
  obtain ⟨F, caps, h1, h2, h3⟩ := h
  exact ⟨F, caps, h1, h2, fun p hp w2 P An cn A c hb2 => h3 p hp w2 P An cn A c (hb.trans (hb2.mono hb.size))⟩
theorem any_take {q : Ty → Bool} {l : List Ty} {i : Nat} {t : Ty} (e : l[i]? = some t) (h : (l.take i).any q = false) (k : q t = false) : (l.take (i + 1)).any q = false := by
  rw [List.take_add_one, e]
  simp [h, k]

set_option maxHeartbeats 4000000 in
set_option maxRecDepth 100000 in
theorem indexf_any (w : World) (v : Value) (ps : List Ty) (q : Ty → Bool) (P : Nat → Prop) (A : Option Addr) (c : Nat) (hv : AskV w v ps q) (h : TV w P ps A c) (hl : ps.length ≤ 1000001) :
    Calls Tryz.prog 84 #[.slice A ps.length c, v] w fun e w' => ∃ r : Int, e = .returned (.int .i64 r) ∧ decide (r ≥ 0) = ps.any q ∧ Below w.heap.size w w' := by
  obtain ⟨F, caps, rfl, eF, h3⟩ := hv
  have HK := Lib.hid h
  have HP := Lib.hid h3
  obtain ⟨n, hn⟩ : ∃ n, n = ps.length := ⟨_, rfl⟩
  have HN := Lib.hid hn
  have hn1 : n ≤ 1000001 := by omega
  rw [← hn]
  clear h h3 hn hl
  go_enter Tryz.func84, Tryz.ntmps84
  go_wp2_with fail
  go_loopg [8] (n + 1) (fun kx s8 wr => ∃ i : Nat, s8 = .int .i64 i ∧ n - i ≤ kx ∧ i ≤ n ∧ Hid ((ps.take i).any q = false) ∧ Hid (Below w.heap.size w wr))
  case atStart => exact ⟨0, rfl, by omega, by omega, by simp [Hid], Below.refl _ _⟩
  case round =>
    obtain ⟨i, rfl, hkx, hin, HQ, HB⟩ := hrel
    by_cases hi : i < n
    · have hil : (i : Int) < (n : Int) := by omega
      obtain ⟨t, e⟩ := get_of_lt (l := ps) (i := i) (by rw [← HN.out]; exact hi)
      obtain ⟨g, o, An2, cn2, A2, c2, hA, hP, hg, hti, z0, z1, z2⟩ := (HK.out.below HB.out).nth e
      have hm := List.mem_of_getElem? e
      obtain ⟨j, hj⟩ : ∃ j, j = i + 1 := ⟨_, rfl⟩
      have C := Lib.hid (HP.out t hm wr P An2 cn2 A2 c2 HB.out hti)
      have HE := Lib.hid e
      have HM := Lib.hid hm
      obtain ⟨b, hb⟩ : ∃ b, b = q t := ⟨_, rfl⟩
      have HBB := Lib.hid hb
      rw [← hb] at C
      have eV := eF (tv t An2 cn2 A2 c2)
      obtain ⟨kt, nt, pt⟩ := t
      simp only [kind_mk, names_mk, parts_mk] at z0 z1 z2 C eV
      subst hA
      clear hti e hm hb
      go_wp2_with fail
      refine C.out.mono ?_
      rintro e w2 ⟨rfl, h2⟩
      have HB2 : Hid (Below w.heap.size w w2) := HB.out.trans (h2.mono HB.out.size)
      clear h2 C z0 z1 z2
      cases b
      · have HQ2 := Lib.hid (any_take HE.out HQ.out HBB.out.symm)
        go_wp2_with fail
        go_roundg (n - j)
        case measure => omega
        case rel => exact ⟨j, by rw [hj]; go_num, by omega, by omega, by rw [hj]; exact HQ2.out, HB2.out⟩
      · go_wp2_with fail
        (first | go_ret | go_ret2)
        refine ⟨i, rfl, ?_, HB2.out⟩
        have : ps.any q = true := List.any_eq_true.2 ⟨_, HM.out, HBB.out.symm⟩
        rw [this]
        simp
    · have hil : ¬ (i : Int) < (n : Int) := by omega
      go_wp2_with fail
      (first | go_ret | go_ret2)
      refine ⟨-1, rfl, ?_, HB.out⟩
      have h1 := HQ.out
      rw [List.take_of_length_le (by rw [← HN.out]; omega)] at h1
      rw [h1]
      decide

set_option maxHeartbeats 4000000 in
set_option maxRecDepth 100000 in
theorem containsf_any (w : World) (v : Value) (ps : List Ty) (q : Ty → Bool) (P : Nat → Prop) (A : Option Addr) (c : Nat) (hv : AskV w v ps q) (h : TV w P ps A c) (hl : ps.length ≤ 1000001) :
    Calls Tryz.prog 60 #[.slice A ps.length c, v] w fun e w' => e = .returned (.bool (ps.any q)) ∧ Below w.heap.size w w' := by
  have C := Lib.hid (indexf_any w v ps q P A c hv h hl)
  obtain ⟨F, caps, rfl, eF, h3⟩ := hv
  clear h3 h eF hl
  go_enter Tryz.func60, Tryz.ntmps60
  go_wp2_with fail
  refine C.out.mono ?_
  rintro e w1 ⟨r, rfl, hr, h1⟩
  have HB := Lib.hid h1
  have HR := Lib.hid hr
  clear h1 C hr
  go_wp2_with fail
  (first | go_ret | go_ret2)
  exact ⟨by rw [← HR.out]; rfl, HB.out⟩

set_option maxHeartbeats 4000000 in
set_option maxRecDepth 100000 in
theorem all1_any (w : World) (v : Value) (ps : List Ty) (q : Ty → Bool) (H : Nat) (t : Ty) (P : Nat → Prop) (An : Option Addr) (cn : Nat) (A : Option Addr) (c : Nat) (bx : RowB w H 26 #[v]) (hv : AskV w v ps q) (ht : t ∈ ps) (h : TI w P t An cn A c) :
    Calls Tryz.prog 61 (#[tv t An cn A c] ++ #[.pointer (some ⟨H, 0, none⟩)]) w fun e w' => e = .returned (.bool (!q t)) ∧ Below w.heap.size w w' := by
  obtain ⟨F, caps, rfl, eF, h3⟩ := hv
  have C := Lib.hid (h3 t ht (w.alloc (.cells #[.int .i64 t.kind, .slice An t.names.length cn, .slice A t.parts.length c] 25)) P An cn A c (bel1 w _) (h.below (bel1 w _)))
  have R0 := Lib.hid (RowB.new w 25 #[.int .i64 t.kind, .slice An t.names.length cn, .slice A t.parts.length c])
  have rc := R0.out.cell
  have R1 := Lib.hid (bx.alloc (.cells #[.int .i64 t.kind, .slice An t.names.length cn, .slice A t.parts.length c] 25))
  have rd := R1.out.cell
  have HB0 := Lib.hid (bel1 w (.cells #[.int .i64 t.kind, .slice An t.names.length cn, .slice A t.parts.length c] 25))
  have eV := eF (tv t An cn A c)
  obtain ⟨b, hb⟩ : ∃ b, b = q t := ⟨_, rfl⟩
  rw [← hb] at C ⊢
  clear bx h3 h ht hb
  obtain ⟨kt, nt, pt⟩ := t
  simp only [kind_mk, names_mk, parts_mk] at C R0 rc R1 rd eV HB0 ⊢
  go_enter Tryz.func61, Tryz.ntmps61
  go_wp2_with fail
  refine C.out.mono ?_
  rintro e w1 ⟨rfl, h1⟩
  have HB := Lib.hid h1
  clear h1 C rc rd
  go_wp2_with fail
  (first | go_ret | go_ret2)
  exact ⟨rfl, HB0.out.trans (HB.out.mono HB0.out.size)⟩

set_option maxHeartbeats 4000000 in
set_option maxRecDepth 100000 in
theorem all_any (w : World) (v : Value) (ps : List Ty) (q : Ty → Bool) (P : Nat → Prop) (A : Option Addr) (c : Nat) (hv : AskV w v ps q) (h : TV w P ps A c) (hl : ps.length ≤ 1000001) :
    Calls Tryz.prog 41 #[.slice A ps.length c, v] w fun e w' => e = .returned (.bool (ps.all q)) ∧ Below w.heap.size w w' := by
  have C : Hid (Calls Tryz.prog 60 #[.slice A ps.length c, .func (.func 61) #[] #[.pointer (some ⟨w.heap.size, 0, none⟩)]] (w.alloc (.cells #[v] 26)) fun e w' => e = .returned (.bool (ps.any fun t => !q t)) ∧ Below (w.alloc (.cells #[v] 26)).heap.size (w.alloc (.cells #[v] 26)) w') := by
    refine containsf_any (w.alloc (.cells #[v] 26)) _ ps (fun t => !q t) P A c ⟨61, _, rfl, fun _ _ => rfl, fun p hp w' P' An cn A' c' hb hk => ?_⟩ (h.below (bel1 w _)) hl
    exact all1_any w' v ps q w.heap.size p P' An cn A' c' ((RowB.new w 26 _).below hb (RowB.new w 26 #[v]).lt) ((hv.below (bel1 w _)).below hb) hp hk
  have e : (ps.all q) = !(ps.any fun t => !q t) := by rw [List.any_eq_not_all_not]; simp
  rw [e]
  generalize (ps.any fun t => !q t) = b at C ⊢
  obtain ⟨F, caps, rfl, eF, h3⟩ := hv
  clear h3 eF h hl e
  go_enter Tryz.func41, Tryz.ntmps41
  go_wp2_with fail
  refine C.out.mono ?_
  rintro e w1 ⟨rfl, h1⟩
  have HB := Lib.hid h1
  clear h1 C
  go_wp2_with fail
  (first | go_ret | go_ret2)
  exact ⟨rfl, (bel1 w _).trans (HB.out.mono (by simp))⟩
end Tm
end Go.Proofs.YtifkjngclkklfaaGreatDoor
/- Contracts: whether no part of a type is dyn: the document's way, the program's. -/
namespace Go.Proofs.YtifkjngclkklfaaGreatDoor
open Go.RowKit
namespace Tm
theorem all_take {q : Ty → Bool} {l : List Ty} {i : Nat} {t : Ty} (e : l[i]? = some t) (h : (l.take i).all q = true) (k : q t = true) : (l.take (i + 1)).all q = true := by
  rw [List.take_add_one, e]
  simp [h, k]
theorem all_no {q : Ty → Bool} {l : List Ty} {t : Ty} (h : t ∈ l) (k : q t = false) : l.all q = false := by
  cases e : l.all q
  · rfl
  · rw [List.all_eq_true] at e
    rw [e t h] at k
    cases k

set_option maxHeartbeats 4000000 in
set_option maxRecDepth 100000 in
theorem rstatic_step (ps : List Ty) (hl : ps.length ≤ 1000001)
    (IH : ∀ p ∈ ps, ∀ (w : World) (P : Nat → Prop) (An : Option Addr) (cn : Nat) (A : Option Addr) (c : Nat), TI w P p An cn A c → Calls Tryz.prog 19 #[tv p An cn A c] w fun e w' => e = .returned (.bool p.static) ∧ Below w.heap.size w w')
    (w : World) (P : Nat → Prop) (k : Int) (An : Option Addr) (m cn : Nat) (A : Option Addr) (c : Nat) (h : TV w P ps A c) (r : Bool) (hr : r = (decide (k ≠ 0) && ps.all Ty.static)) :
    Calls Tryz.prog 19 #[.agg #[.int .i64 k, .slice An m cn, .slice A ps.length c]] w fun e w' => e = .returned (.bool r) ∧ Below w.heap.size w w' := by
  obtain ⟨n, hn⟩ : ∃ n, n = ps.length := ⟨_, rfl⟩
  have hn1 : n ≤ 1000001 := by omega
  rw [← hn]
  have HK := Lib.hid (h.below (bel1 w (.cells #[.int .i64 k, .slice An m cn, .slice A n c] 25)))
  have R0 := Lib.hid (RowB.new w 25 #[.int .i64 k, .slice An m cn, .slice A n c])
  have B0 := Lib.hid (bel1 w (.cells #[.int .i64 k, .slice An m cn, .slice A n c] 25))
  have HI := Lib.hid IH
  have HN := Lib.hid hn
  have HR := Lib.hid hr
  have rc := R0.out.cell
  clear h IH hn hl hr
  by_cases hk : k = 0
  · subst hk
    go_enter Tryz.func19, Tryz.ntmps19
    go_wp2_with fail
    (first | go_ret | go_ret2)
    exact ⟨by rw [HR.out]; rfl, B0.out⟩
  have hk1 : (k == 0) = false := by rw [beq_eq_false_iff_ne]; exact hk
  have HR : Hid (r = ps.all Ty.static) := by unfold Hid; rw [HR.out, decide_eq_true hk, Bool.true_and]
  go_enter Tryz.func19, Tryz.ntmps19
  go_wp2_with fail
  obtain ⟨W, hW⟩ : ∃ W, W = w.alloc (.cells #[.int .i64 k, .slice An m cn, .slice A n c] 25) := ⟨_, rfl⟩
  rw [← hW] at HK R0 B0 rc ⊢
  clear hW rc
  go_loopg [3] (n + 1) (fun kx s3 wr => ∃ (i : Nat), s3 = .int .i64 i ∧ n - i ≤ kx ∧ i ≤ n ∧ Hid ((ps.take i).all Ty.static = true) ∧ Hid (Below W.heap.size W wr))
  case atStart => exact ⟨0, rfl, by omega, by omega, by simp [Hid], Below.refl _ _⟩
  case round =>
    obtain ⟨i, rfl, hkx, hin, HQ, HB⟩ := hrel
    have R1 := Lib.hid (R0.out.below HB.out R0.out.lt)
    have rc := R1.out.cell
    by_cases hi : i < n
    · have hil : (i : Int) < (n : Int) := by omega
      obtain ⟨t, e⟩ := get_of_lt (l := ps) (i := i) (by rw [← HN.out]; exact hi)
      obtain ⟨g, o, An2, cn2, A2, c2, hA, hP, hg, hti, z0, z1, z2⟩ := (HK.out.below HB.out).nth e
      have HM := Lib.hid (List.mem_of_getElem? e)
      have HE := Lib.hid e
      have CC := Lib.hid (HI.out t HM.out wr P An2 cn2 A2 c2 hti)
      obtain ⟨b, hb⟩ : ∃ b, b = t.static := ⟨_, rfl⟩
      have HBB := Lib.hid hb
      rw [← hb] at CC
      subst hA
      obtain ⟨j, hj⟩ : ∃ j, j = i + 1 := ⟨_, rfl⟩
      obtain ⟨kt, nt, pt⟩ := t
      simp only [kind_mk, names_mk, parts_mk] at z0 z1 z2 CC
      clear e hti hb
      go_wp2_with fail
      refine CC.out.mono ?_
      rintro e w2 ⟨rfl, h2⟩
      have HB2 := Lib.hid (HB.out.trans (h2.mono HB.out.size))
      clear h2 CC z0 z1 z2 rc
      cases b
      · go_wp2_with fail
        (first | go_ret | go_ret2)
        exact ⟨by rw [HR.out, all_no HM.out HBB.out.symm]; rfl, B0.out.trans (HB2.out.mono B0.out.size)⟩
      · have HQ2 := Lib.hid (all_take HE.out HQ.out HBB.out.symm)
        go_wp2_with fail
        go_roundg (n - j)
        case measure => omega
        case rel => exact ⟨j, by rw [hj]; go_num, by omega, by omega, by rw [hj]; exact HQ2.out, HB2.out⟩
    · have hil : ¬ (i : Int) < (n : Int) := by omega
      go_wp2_with fail
      (first | go_ret | go_ret2)
      refine ⟨?_, B0.out.trans (HB.out.mono B0.out.size)⟩
      have h1 := HQ.out
      rw [List.take_of_length_le (by rw [← HN.out]; omega)] at h1
      rw [HR.out, h1]
      rfl
theorem rstatic_any : ∀ t : Ty, t.cnt ≤ 1000001 → ∀ (w : World) (P : Nat → Prop) (An : Option Addr) (cn : Nat) (A : Option Addr) (c : Nat), TI w P t An cn A c → Calls Tryz.prog 19 #[tv t An cn A c] w fun e w' => e = .returned (.bool t.static) ∧ Below w.heap.size w w' := by
  refine Ty.ind fun k ns ps ih hc w P An cn A c h => ?_
  rw [Ty.cnt] at hc
  exact rstatic_step ps (by have := cntL_len ps; omega) (fun p hp => ih p hp (by have := cnt_mem hp; omega)) w P k An ns.length cn A c (TI_iff.1 h).2 _ (by rw [Ty.static, staticL_all])

set_option maxHeartbeats 4000000 in
set_option maxRecDepth 100000 in
theorem pstatic_step (ps : List Ty) (hl : ps.length ≤ 1000001)
    (IH : ∀ p ∈ ps, ∀ (w : World) (P : Nat → Prop) (An : Option Addr) (cn : Nat) (A : Option Addr) (c : Nat), TI w P p An cn A c → Calls Tryz.prog 18 #[tv p An cn A c] w fun e w' => e = .returned (.bool p.static) ∧ Below w.heap.size w w')
    (w : World) (P : Nat → Prop) (k : Int) (An : Option Addr) (m cn : Nat) (A : Option Addr) (c : Nat) (h : TV w P ps A c) (r : Bool) (hr : r = (decide (k ≠ 0) && ps.all Ty.static)) :
    Calls Tryz.prog 18 #[.agg #[.int .i64 k, .slice An m cn, .slice A ps.length c]] w fun e w' => e = .returned (.bool r) ∧ Below w.heap.size w w' := by
  have R0 := Lib.hid (RowB.new w 25 #[.int .i64 k, .slice An m cn, .slice A ps.length c])
  have B0 := Lib.hid (bel1 w (.cells #[.int .i64 k, .slice An m cn, .slice A ps.length c] 25))
  have C := Lib.hid (all_any (w.alloc (.cells #[.int .i64 k, .slice An m cn, .slice A ps.length c] 25)) (.func (.func 18) #[] #[]) ps Ty.static P A c ⟨18, #[], rfl, fun _ _ => rfl, fun p hp w' P An cn A c _ hk => IH p hp w' P An cn A c hk⟩ (h.below (bel1 w _)) hl)
  have rc := R0.out.cell
  have HR := Lib.hid hr
  generalize ps.all Ty.static = b at C HR
  clear h IH hl hr
  by_cases hk : k = 0
  · subst hk
    go_enter Tryz.func18, Tryz.ntmps18
    go_wp2_with fail
    (first | go_ret | go_ret2)
    exact ⟨by rw [HR.out]; rfl, B0.out⟩
  have hk1 : (k != 0) = true := by rw [bne_iff_ne]; exact hk
  have HR : Hid (r = b) := by unfold Hid; rw [HR.out, decide_eq_true hk, Bool.true_and]
  go_enter Tryz.func18, Tryz.ntmps18
  go_wp2_with fail
  refine C.out.mono ?_
  rintro e w1 ⟨rfl, h1⟩
  have HB := Lib.hid h1
  clear h1 C rc
  go_wp2_with fail
  (first | go_ret | go_ret2)
  exact ⟨by rw [HR.out]; rfl, B0.out.trans (HB.out.mono B0.out.size)⟩
theorem pstatic_any : ∀ t : Ty, t.cnt ≤ 1000001 → ∀ (w : World) (P : Nat → Prop) (An : Option Addr) (cn : Nat) (A : Option Addr) (c : Nat), TI w P t An cn A c → Calls Tryz.prog 18 #[tv t An cn A c] w fun e w' => e = .returned (.bool t.static) ∧ Below w.heap.size w w' := by
  refine Ty.ind fun k ns ps ih hc w P An cn A c h => ?_
  rw [Ty.cnt] at hc
  exact pstatic_step ps (by have := cntL_len ps; omega) (fun p hp => ih p hp (by have := cnt_mem hp; omega)) w P k An ns.length cn A c (TI_iff.1 h).2 _ (by rw [Ty.static, staticL_all])
end Tm
end Go.Proofs.YtifkjngclkklfaaGreatDoor
