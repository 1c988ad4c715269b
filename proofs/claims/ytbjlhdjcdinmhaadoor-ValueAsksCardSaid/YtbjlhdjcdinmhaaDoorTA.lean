/- Types, in mathematics and in memory. -/
import Derived.Test.YtbjlhdjcdinmhaaDoorRN
import Derived.Lib.QuietBelow
namespace Go.Proofs.YtbjlhdjcdinmhaaDoor
open Go.RowKit Go.Op
namespace Tm
open Vm
/-- A type: its kind, its names, its parts. -/
inductive Ty where
  | mk (kind : Int) (names : List ByteArray) (parts : List Ty)
def Ty.kind : Ty → Int
  | .mk k _ _ => k
def Ty.names : Ty → List ByteArray
  | .mk _ n _ => n
def Ty.parts : Ty → List Ty
  | .mk _ _ p => p
@[simp] theorem kind_mk (k : Int) (n : List ByteArray) (p : List Ty) : (Ty.mk k n p).kind = k := rfl
@[simp] theorem names_mk (k : Int) (n : List ByteArray) (p : List Ty) : (Ty.mk k n p).names = n := rfl
@[simp] theorem parts_mk (k : Int) (n : List ByteArray) (p : List Ty) : (Ty.mk k n p).parts = p := rfl
theorem Ty.eta : ∀ t : Ty, t = .mk t.kind t.names t.parts
  | .mk _ _ _ => rfl
def dyn : Ty := .mk 0 [] []

mutual
/-- How many stand one in the other. -/
def Ty.depth : Ty → Nat
  | .mk _ _ ps => 1 + depthL ps
def depthL : List Ty → Nat
  | [] => 0
  | t :: ts => max t.depth (depthL ts)
end
theorem depth_mem {t : Ty} : ∀ {l : List Ty}, t ∈ l → t.depth ≤ depthL l
  | a :: l, h => by
    rw [depthL]
    rcases List.mem_cons.1 h with rfl | h
    · omega
    · have := depth_mem h; omega
theorem depth_part {t p : Ty} (h : p ∈ t.parts) : p.depth < t.depth := by
  cases t
  rw [Ty.depth]
  have := depth_mem h
  simp only [Ty.parts] at this
  omega
theorem depthL_le {n : Nat} : ∀ {l : List Ty}, (∀ t ∈ l, t.depth ≤ n) → depthL l ≤ n
  | [], _ => by rw [depthL]; omega
  | a :: l, h => by
    have h1 := h a List.mem_cons_self
    have h2 := depthL_le (l := l) fun t ht => h t (List.mem_cons_of_mem _ ht)
    rw [depthL]; omega
theorem Ty.depth_pos (t : Ty) : 0 < t.depth := by cases t; rw [Ty.depth]; omega
/-- To show of all types: each, if its parts. -/
theorem Ty.ind {C : Ty → Prop} (h : ∀ k ns ps, (∀ p ∈ ps, C p) → C (.mk k ns ps)) : ∀ t, C t := by
  have key : ∀ n (t : Ty), t.depth ≤ n → C t := by
    intro n
    induction n with
    | zero => intro t ht; have := t.depth_pos; omega
    | succ n ih =>
      rintro ⟨k, ns, ps⟩ ht
      refine h k ns ps fun p hp => ih p ?_
      have : p.depth < (Ty.mk k ns ps).depth := depth_part (t := .mk k ns ps) hp
      omega
  exact fun t => key t.depth t (Nat.le_refl _)

def nmB (s : ByteArray) : Bool := rnameL s.data.toList
/-- Names and parts as the kind has them, whatever these are. -/
def ownB (k : Int) (ns : List ByteArray) (n : Nat) : Bool :=
  if k = 0 ∨ k = 1 ∨ k = 2 then decide (ns = []) && decide (n = 0)
  else if k = 3 then decide (ns.length = n) && (ns.all nmB && riseB ns)
  else if k = 4 then decide (ns = []) && decide (0 < n)
  else false
mutual
/-- May a type be? -/
def Ty.right : Ty → Bool
  | .mk k ns ps => ownB k ns ps.length && rightL ps
def rightL : List Ty → Bool
  | [] => true
  | t :: ts => t.right && rightL ts
end
theorem rightL_all : ∀ l : List Ty, rightL l = l.all Ty.right
  | [] => rfl
  | t :: ts => by rw [rightL, List.all_cons, rightL_all ts]
theorem right_part {t p : Ty} (h : t.right = true) (hp : p ∈ t.parts) : p.right = true := by
  cases t
  rw [Ty.right, rightL_all, Bool.and_eq_true, List.all_eq_true] at h
  exact h.2 p hp
/-- What is known of types that may be. -/
theorem right_cases {k : Int} {ns : List ByteArray} {ps : List Ty} (h : (Ty.mk k ns ps).right = true) :
    ((k = 0 ∨ k = 1 ∨ k = 2) ∧ ns = [] ∧ ps = []) ∨ (k = 3 ∧ ns.length = ps.length ∧ ns.all nmB = true ∧ riseB ns = true) ∨ (k = 4 ∧ ns = [] ∧ 0 < ps.length) := by
  rw [Ty.right, Bool.and_eq_true] at h
  have h := h.1
  unfold ownB at h
  split at h
  · simp at h; exact .inl ⟨by assumption, h.1, h.2⟩
  · split at h
    · simp at h; refine .inr (.inl ⟨by assumption, h.1, by simpa using h.2.1, h.2.2⟩)
    · split at h
      · simp at h; exact .inr (.inr ⟨by assumption, h.1, by simpa using h.2⟩)
      · cases h

abbrev tv (t : Ty) (An : Option Addr) (cn : Nat) (A : Option Addr) (c : Nat) : Value := .agg #[.int .i64 t.kind, .slice An t.names.length cn, .slice A t.parts.length c]
abbrev tcs (t : Ty) (An : Option Addr) (cn : Nat) (A : Option Addr) (c : Nat) : List Value := [.int .i64 t.kind, .slice An t.names.length cn, .slice A t.parts.length c]
mutual
/-- What a type's slices hold. -/
def TI (w : World) (P : Nat → Prop) : Ty → Option Addr → Nat → Option Addr → Nat → Prop
  | .mk _ ns ps, An, cn, A, c => NV w P ns An cn ∧ ps.length ≤ c ∧
      (0 < ps.length → ∃ (g o : Nat) (ck : List Value), A = some ⟨g, o, none⟩ ∧ P g ∧ g < w.heap.size ∧ (∀ j u, ck[j]? = some u → w.cell? ⟨g, o + j, none⟩ = some u) ∧ TL w P ps ck)
/-- Cells of types beside one another. -/
def TL (w : World) (P : Nat → Prop) : List Ty → List Value → Prop
  | [], cs => cs = []
  | t :: ts, cs => ∃ An cn A c cs', cs = tcs t An cn A c ++ cs' ∧ TI w P t An cn A c ∧ TL w P ts cs'
end
/-- A slice of types. -/
def TV (w : World) (P : Nat → Prop) (ps : List Ty) (A : Option Addr) (c : Nat) : Prop :=
  ps.length ≤ c ∧ (0 < ps.length → ∃ (g o : Nat) (ck : List Value), A = some ⟨g, o, none⟩ ∧ P g ∧ g < w.heap.size ∧ (∀ j u, ck[j]? = some u → w.cell? ⟨g, o + j, none⟩ = some u) ∧ TL w P ps ck)
theorem TI_iff {w : World} {P : Nat → Prop} : ∀ {t : Ty} {An : Option Addr} {cn : Nat} {A : Option Addr} {c : Nat}, TI w P t An cn A c ↔ NV w P t.names An cn ∧ TV w P t.parts A c
  | .mk _ _ _, _, _, _, _ => by rw [TI]; rfl
mutual
theorem TI.keep {w w' : World} {P Q : Nat → Prop} (hs : w.heap.size ≤ w'.heap.size) (hb : ∀ g, P g → g < w.heap.size → w'.heap[g]? = w.heap[g]? ∧ Q g) : ∀ (t : Ty) (An : Option Addr) (cn : Nat) (A : Option Addr) (c : Nat), TI w P t An cn A c → TI w' Q t An cn A c
  | .mk k ns ps, An, cn, A, c, h => by
    rw [TI] at h ⊢
    refine ⟨h.1.keep hs hb, h.2.1, fun h0 => ?_⟩
    obtain ⟨g, o, ck, e1, h1, h2, h3, h4⟩ := h.2.2 h0
    obtain ⟨b1, b2⟩ := hb g h1 h2
    exact ⟨g, o, ck, e1, b2, Nat.lt_of_lt_of_le h2 hs, fun j u hu => (World.cell?_of_block (w := w) b1).trans (h3 j u hu), TL.keep hs hb ps ck h4⟩
theorem TL.keep {w w' : World} {P Q : Nat → Prop} (hs : w.heap.size ≤ w'.heap.size) (hb : ∀ g, P g → g < w.heap.size → w'.heap[g]? = w.heap[g]? ∧ Q g) : ∀ (ts : List Ty) (cs : List Value), TL w P ts cs → TL w' Q ts cs
  | [], cs, h => by rw [TL] at h ⊢; exact h
  | t :: ts, cs, h => by
    rw [TL] at h ⊢
    obtain ⟨An, cn, A, c, cs', e, h1, h2⟩ := h
    exact ⟨An, cn, A, c, cs', e, TI.keep hs hb t An cn A c h1, TL.keep hs hb ts cs' h2⟩
end
theorem TV.keep {w w' : World} {P Q : Nat → Prop} (hs : w.heap.size ≤ w'.heap.size) (hb : ∀ g, P g → g < w.heap.size → w'.heap[g]? = w.heap[g]? ∧ Q g) {ps : List Ty} {A : Option Addr} {c : Nat} (h : TV w P ps A c) : TV w' Q ps A c := by
  refine ⟨h.1, fun h0 => ?_⟩
  obtain ⟨g, o, ck, e1, h1, h2, h3, h4⟩ := h.2 h0
  obtain ⟨b1, b2⟩ := hb g h1 h2
  exact ⟨g, o, ck, e1, b2, Nat.lt_of_lt_of_le h2 hs, fun j u hu => (World.cell?_of_block (w := w) b1).trans (h3 j u hu), TL.keep hs hb ps ck h4⟩
theorem TI.below {w w' : World} {P : Nat → Prop} {t : Ty} {An : Option Addr} {cn : Nat} {A : Option Addr} {c : Nat} (h : TI w P t An cn A c) (hb : Below w.heap.size w w') : TI w' P t An cn A c := h.keep hb.size (fun g hg hl => ⟨hb.block g hl, hg⟩)
theorem TV.below {w w' : World} {P : Nat → Prop} {ps : List Ty} {A : Option Addr} {c : Nat} (h : TV w P ps A c) (hb : Below w.heap.size w w') : TV w' P ps A c := h.keep hb.size (fun g hg hl => ⟨hb.block g hl, hg⟩)
theorem TL.below {w w' : World} {P : Nat → Prop} {ps : List Ty} {cs : List Value} (h : TL w P ps cs) (hb : Below w.heap.size w w') : TL w' P ps cs := h.keep hb.size (fun g hg hl => ⟨hb.block g hl, hg⟩)
theorem TI.mono {w : World} {P Q : Nat → Prop} {t : Ty} {An : Option Addr} {cn : Nat} {A : Option Addr} {c : Nat} (h : TI w P t An cn A c) (hq : ∀ g, P g → Q g) : TI w Q t An cn A c := h.keep (Nat.le_refl _) (fun g hg _ => ⟨rfl, hq g hg⟩)
theorem TV.mono {w : World} {P Q : Nat → Prop} {ps : List Ty} {A : Option Addr} {c : Nat} (h : TV w P ps A c) (hq : ∀ g, P g → Q g) : TV w Q ps A c := h.keep (Nat.le_refl _) (fun g hg _ => ⟨rfl, hq g hg⟩)
theorem TV.nil (w : World) (P : Nat → Prop) (A : Option Addr) (c : Nat) : TV w P [] A c := ⟨Nat.zero_le _, fun h => by simp at h⟩
theorem TL.len {w : World} {P : Nat → Prop} : ∀ (a : List Ty) (ca : List Value), TL w P a ca → ca.length = a.length * 3
  | [], ca, h => by rw [TL] at h; subst h; rfl
  | t :: ts, ca, h => by
    rw [TL] at h
    obtain ⟨An, cn, A, c, cs', e, h1, h2⟩ := h
    have := TL.len ts cs' h2
    rw [e, List.length_append, this]
    simp
    omega
theorem TL.cell1 {w : World} {P : Nat → Prop} : ∀ (a : List Ty) (ca : List Value), TL w P a ca → ∀ u ∈ ca, u.oneCell' = true
  | [], ca, h => by rw [TL] at h; subst h; simp
  | t :: ts, ca, h => by
    rw [TL] at h
    obtain ⟨An, cn, A, c, cs', e, h1, h2⟩ := h
    have := TL.cell1 ts cs' h2
    rw [e]
    intro u hu
    rcases List.mem_append.1 hu with h | h
    · simp at h
      rcases h with rfl | rfl | rfl <;> rfl
    · exact this u h
theorem TL.app {w : World} {P : Nat → Prop} : ∀ (a : List Ty) (ca : List Value) {b : List Ty} {cb : List Value}, TL w P a ca → TL w P b cb → TL w P (a ++ b) (ca ++ cb)
  | [], ca, b, cb, h, h' => by rw [TL] at h; subst h; exact h'
  | t :: ts, ca, b, cb, h, h' => by
    rw [TL] at h
    obtain ⟨An, cn, A, c, cs', e, h1, h2⟩ := h
    rw [List.cons_append, TL]
    exact ⟨An, cn, A, c, cs' ++ cb, by rw [e, List.append_assoc], h1, TL.app ts cs' h2 h'⟩
theorem TL.one {w : World} {P : Nat → Prop} {t : Ty} {An : Option Addr} {cn : Nat} {A : Option Addr} {c : Nat} (h : TI w P t An cn A c) : TL w P [t] (tcs t An cn A c) := by
  rw [TL]
  exact ⟨An, cn, A, c, [], by simp, h, by rw [TL]⟩
theorem TL.nth {w : World} {P : Nat → Prop} : ∀ (a : List Ty) (ca : List Value) (i : Nat) (t : Ty), TL w P a ca → a[i]? = some t →
    ∃ An cn A c, TI w P t An cn A c ∧ ∀ j u, (tcs t An cn A c)[j]? = some u → ca[i * 3 + j]? = some u
  | [], ca, i, t, h, e => by simp at e
  | t' :: ts, ca, 0, t, h, e => by
    obtain rfl : t' = t := by simpa using e
    rw [TL] at h
    obtain ⟨An, cn, A, c, cs', rfl, h1, h2⟩ := h
    refine ⟨An, cn, A, c, h1, fun j u hu => ?_⟩
    rw [Nat.zero_mul, Nat.zero_add, List.getElem?_append_left (List.getElem?_eq_some_iff.1 hu).1]
    exact hu
  | t' :: ts, ca, i + 1, t, h, e => by
    rw [TL] at h
    obtain ⟨An, cn, A, c, cs', rfl, h1, h2⟩ := h
    obtain ⟨An2, cn2, A2, c2, k1, k2⟩ := TL.nth ts cs' i t h2 (by simpa using e)
    refine ⟨An2, cn2, A2, c2, k1, fun j u hu => ?_⟩
    have := k2 j u hu
    rw [List.getElem?_append_right (by simp; omega)]
    rw [← this]
    congr 1
    simp only [List.length_cons, List.length_nil]
    omega
/-- The part number i of a slice of types. -/
theorem TV.nth {w : World} {P : Nat → Prop} {ps : List Ty} {A : Option Addr} {c i : Nat} {t : Ty} (h : TV w P ps A c) (e : ps[i]? = some t) :
    ∃ g o An cn A2 c2, A = some ⟨g, o, none⟩ ∧ P g ∧ g < w.heap.size ∧ TI w P t An cn A2 c2 ∧ w.cell? ⟨g, o + i * 3, none⟩ = some (.int .i64 t.kind) ∧ w.cell? ⟨g, o + i * 3 + 1, none⟩ = some (.slice An t.names.length cn) ∧ w.cell? ⟨g, o + i * 3 + 2, none⟩ = some (.slice A2 t.parts.length c2) := by
  have hl : 0 < ps.length := by have := (List.getElem?_eq_some_iff.1 e).1; omega
  obtain ⟨g, o, ck, hA, hP, hg, hc, hf⟩ := h.2 hl
  obtain ⟨An, cn, A2, c2, h1, h2⟩ := TL.nth ps ck i t hf e
  have key := fun j u hu => hc _ _ (h2 j u hu)
  exact ⟨g, o, An, cn, A2, c2, hA, hP, hg, h1, key 0 _ rfl, key 1 _ rfl, key 2 _ rfl⟩
/-- A part of a slice of types, from its beginning. -/
theorem TL.cut {w : World} {P : Nat → Prop} : ∀ (a : List Ty) (ca : List Value) (n : Nat), TL w P a ca → TL w P (a.take n) (ca.take (n * 3)) ∧ TL w P (a.drop n) (ca.drop (n * 3))
  | [], ca, n, h => by rw [TL] at h; subst h; simp [TL]
  | t :: ts, ca, 0, h => by simp only [List.take_zero, List.drop_zero, Nat.zero_mul]; exact ⟨by rw [TL], h⟩
  | t :: ts, ca, n + 1, h => by
    rw [TL] at h
    obtain ⟨An, cn, A, c, cs', rfl, h1, h2⟩ := h
    obtain ⟨k1, k2⟩ := TL.cut ts cs' n h2
    have e : (n + 1) * 3 = (tcs t An cn A c).length + n * 3 := by simp only [List.length_cons, List.length_nil]; omega
    rw [e, List.take_length_add_append, List.drop_length_add_append, List.take_succ_cons, List.drop_succ_cons]
    refine ⟨?_, k2⟩
    rw [TL]
    exact ⟨An, cn, A, c, cs'.take (n * 3), rfl, h1, k1⟩
theorem TV.take {w : World} {P : Nat → Prop} {ps : List Ty} {A : Option Addr} {c : Nat} (h : TV w P ps A c) (n : Nat) : TV w P (ps.take n) A c := by
  refine ⟨by have := h.1; simp only [List.length_take]; omega, fun h0 => ?_⟩
  obtain ⟨g, o, ck, e1, h1, h2, h3, h4⟩ := h.2 (by simp only [List.length_take] at h0; omega)
  exact ⟨g, o, ck.take (n * 3), e1, h1, h2, fun j u hu => h3 j u (by rw [List.getElem?_take] at hu; split at hu; exact hu; cases hu), (TL.cut ps ck n h4).1⟩
theorem TV.drop {w : World} {P : Nat → Prop} {ps : List Ty} {g o c : Nat} (h : TV w P ps (some ⟨g, o, none⟩) c) (n : Nat) (hn : n < ps.length) : TV w P (ps.drop n) (some ⟨g, o + n * 3, none⟩) (c - n) := by
  refine ⟨by have := h.1; simp only [List.length_drop]; omega, fun h0 => ?_⟩
  obtain ⟨g', o', ck, e1, h1, h2, h3, h4⟩ := h.2 (by omega)
  injection e1 with e1
  injection e1 with e1 e2
  subst e1 e2
  exact ⟨g, o + n * 3, ck.drop (n * 3), rfl, h1, h2, fun j u hu => by rw [Nat.add_assoc]; exact h3 _ u (by rw [List.getElem?_drop] at hu; exact hu), (TL.cut ps ck n h4).2⟩
mutual
/-- How many types a type is. -/
def Ty.cnt : Ty → Nat
  | .mk _ ns ps => 1 + ns.length + cntL ps
def cntL : List Ty → Nat
  | [] => 0
  | t :: ts => t.cnt + cntL ts
end
theorem Ty.cnt_pos (t : Ty) : 0 < t.cnt := by cases t; rw [Ty.cnt]; omega
theorem cnt_mem {t : Ty} : ∀ {l : List Ty}, t ∈ l → t.cnt ≤ cntL l
  | a :: l, h => by
    rw [cntL]
    rcases List.mem_cons.1 h with rfl | h
    · omega
    · have := cnt_mem h; omega
theorem cnt_part {t p : Ty} (h : p ∈ t.parts) : p.cnt < t.cnt := by
  cases t
  rw [Ty.cnt]
  have := cnt_mem h
  simp only [parts_mk] at this
  omega
theorem cntL_len : ∀ l : List Ty, l.length ≤ cntL l
  | [] => Nat.zero_le _
  | t :: ts => by
    have := cntL_len ts
    have := t.cnt_pos
    rw [cntL, List.length_cons]; omega
theorem cnt_len (t : Ty) : t.parts.length < t.cnt := by
  cases t
  rw [Ty.cnt]
  have := cntL_len ‹List Ty›
  simp only [parts_mk]
  omega
theorem cnt_names (t : Ty) : t.names.length < t.cnt := by
  cases t
  rw [Ty.cnt]
  simp only [names_mk]
  omega
theorem depth_cnt : ∀ t : Ty, t.depth ≤ t.cnt := by
  refine Ty.ind fun k ns ps ih => ?_
  rw [Ty.depth, Ty.cnt]
  have : depthL ps ≤ cntL ps := depthL_le fun t ht => Nat.le_trans (ih t ht) (cnt_mem ht)
  omega
theorem get_of_lt {l : List Ty} {i : Nat} (h : i < l.length) : ∃ t, l[i]? = some t := ⟨l[i], List.getElem?_eq_getElem h⟩
abbrev tarr (k : Int) (An : Option Addr) (m cn : Nat) (A : Option Addr) (n c : Nat) : Array Value := #[.int .i64 k, .slice An m cn, .slice A n c]
end Tm
end Go.Proofs.YtbjlhdjcdinmhaaDoor
