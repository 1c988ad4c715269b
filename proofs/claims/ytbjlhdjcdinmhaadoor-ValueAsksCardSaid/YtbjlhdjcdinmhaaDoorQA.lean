/- Plain helpers: results, old memory, rows; the order of names. -/
import Derived.Test.YtbjlhdjcdinmhaaDoorRows
import Derived.WalkKit
import Derived.WalkLawsBesides
import Derived.WalkSpells
import Derived.BigQuiet
import Derived.Deep.QuietTactic
import Derived.Lib.Hide
import Derived.Laws.Strings
import Derived.Deep.LoopGhost
import Derived.Deep.CutRange
import Derived.Deep.OwnRows
import Derived.Deep.AppendLies
import Derived.Lib.QuietBelow
import Derived.OwnWalk
namespace Go.Proofs.YtbjlhdjcdinmhaaDoor
open Go.RowKit

theorem rb {a b : Bool} (h : a = true ↔ b = true) : Ending.returned (.bool a) = .returned (.bool b) := by
  rw [Bool.eq_iff_iff.2 h]
theorem ri {k : IntKind} {a b : Int} (h : a = b) : Ending.returned (.int k a) = .returned (.int k b) := by rw [h]

abbrev sp (a b : Int) : Value := .agg #[.int .i64 a, .int .i64 b]

theorem bcell {B : Nat} {W w1 : World} (hb : Below B W w1) :
    (∀ b o, b < B → w1.cell? ⟨b, o, none⟩ = W.cell? ⟨b, o, none⟩) ∧ (∀ b o, b < B → w1.frozen? ⟨b, o, none⟩ = W.frozen? ⟨b, o, none⟩) :=
  ⟨fun b o h => hb.cell (p := ⟨b, o, none⟩) h, fun b o h => hb.frozen (p := ⟨b, o, none⟩) h⟩
theorem below_drewN {B : Nat} {a w : World} (h : Below B a w) (n : Nat) : Below B a (w.drewN n) := ⟨h.os, h.tape, h.output, h.size, h.block⟩

/-- The address A holds the whole numbers xs, one cell each, below block B; no address is asked for where there is none. -/
def Ints (w : World) (B : Nat) (A : Option Addr) (xs : List Int) : Prop :=
  0 < xs.length → ∃ b : Nat, A = some ⟨b, 0, none⟩ ∧ b < B ∧ ∀ j, j < xs.length → w.cell? ⟨b, j, none⟩ = some (.int .i64 (xs.getD j 0))
theorem Ints.below {w w' : World} {B : Nat} {A : Option Addr} {xs : List Int} (h : Ints w B A xs) (hb : Below B w w') : Ints w' B A xs := fun hn => by
  obtain ⟨b, e, hlt, hc⟩ := h hn
  exact ⟨b, e, hlt, fun j hj => (hb.cell (p := ⟨b, j, none⟩) hlt).trans (hc j hj)⟩
theorem Ints.more {w : World} {B B' : Nat} {A : Option Addr} {xs : List Int} (h : Ints w B A xs) (hB : B ≤ B') : Ints w B' A xs := fun hn => by
  obtain ⟨b, e, hlt, hc⟩ := h hn
  exact ⟨b, e, by omega, hc⟩
theorem Ints.alloc {w : World} {B : Nat} {A : Option Addr} {xs : List Int} (h : Ints w B A xs) (hB : B ≤ w.heap.size) (o : Obj) : Ints (w.alloc o) B A xs :=
  h.below ((Below.refl _ _).alloc hB o)
theorem Ints.of_own {w : World} {base e n c : Nat} {A : Option Addr} {xs : List Int} (h : w.ownsRow base e 1 (.slice A n c) n (xs.map (Value.int .i64))) (hn : n = xs.length) : Ints w w.heap.size A xs := fun h0 => by
  subst hn
  rcases h.2 with ⟨hv, hx⟩ | ⟨g, cap, cur, hv, _, hh, _⟩
  · simp at hx; subst hx; simp at h0
  · injection hv with hA _ _
    subst hA
    refine ⟨g, rfl, (h.lt g rfl).2, fun j hj => ?_⟩
    have := h.cells (g := g) rfl j (.int .i64 (xs.getD j 0)) (by simp [hj])
    simp only [Addr.add] at this
    by_cases hj0 : j = 0 <;> simpa [hj0] using this

/-- Block g is just these cells of type t, none of them frozen. -/
def RowB (w : World) (g : Nat) (t : TypeId) (cs : Array Value) : Prop := w.heap[g]? = some (.cells cs t (0, 0))
theorem RowB.cell {w : World} {g t : Nat} {cs : Array Value} (h : RowB w g t cs) (i : Nat) : w.cell? ⟨g, i, none⟩ = cs[i]? := cell_of_row w g i cs t (0, 0) h
theorem RowB.thaw {w : World} {g t : Nat} {cs : Array Value} (h : RowB w g t cs) (i : Nat) : w.frozen? ⟨g, i, none⟩ = false := by
  unfold RowB at h
  simp [World.frozen?, h]
theorem RowB.lt {w : World} {g t : Nat} {cs : Array Value} (h : RowB w g t cs) : g < w.heap.size := by
  rcases Nat.lt_or_ge g w.heap.size with h1 | h1
  · exact h1
  · unfold RowB at h; rw [Array.getElem?_eq_none h1] at h; cases h
theorem RowB.new (w : World) (t : TypeId) (cs : Array Value) : RowB (w.alloc (.cells cs t)) w.heap.size t cs := heap_alloc_new w _
theorem RowB.alloc {w : World} {g t : Nat} {cs : Array Value} (h : RowB w g t cs) (o : Obj) : RowB (w.alloc o) g t cs := (Below.heap_alloc w o g h.lt).trans h
theorem RowB.below {w w' : World} {g t B : Nat} {cs : Array Value} (h : RowB w g t cs) (hb : Below B w w') (hg : g < B) : RowB w' g t cs := (hb.block g hg).trans h
theorem RowB.grown {w w' : World} {g t : Nat} {cs : Array Value} {row : Option Nat} (h : RowB w g t cs) (hb : w.grownBy w' row) (hg : some g ≠ row) : RowB w' g t cs := (hb.block g h.lt hg).trans h
theorem RowB.far {w : World} {g t : Nat} {cs : Array Value} (h : RowB w g t cs) {p : Addr} (hp : g ≠ p.block) (u : Value) : RowB (w.setCell p u) g t cs := (Below.heap_setCell w p u g hp).trans h
theorem RowB.put {w : World} {g t : Nat} {cs : Array Value} (h : RowB w g t cs) (i : Nat) (u : Value) : RowB (w.setCell ⟨g, i, none⟩ u) g t (cs.setIfInBounds i u) := by
  unfold RowB at h ⊢
  simp [World.setCell, Array.getElem?_modify, h]
theorem own_form {w : World} {base e n : Nat} {v : Value} {xs : List Value} (h : w.ownsRow base e 1 v n xs) : ∃ A cap, v = .slice A n cap := by
  rcases h.2 with ⟨hv, hx⟩ | ⟨g, cap, cur, hv, _⟩
  · have := h.1; subst hx; simp at this; subst this; exact ⟨none, 0, hv⟩
  · exact ⟨_, cap, hv⟩
/-- Nothing below block B turns but block rb. -/
structure Fr (rb B : Nat) (w w' : World) : Prop where
  os : w'.os = w.os
  tape : w'.tape = w.tape
  output : w'.output = w.output
  size : w.heap.size ≤ w'.heap.size
  block : ∀ k, k < B → k ≠ rb → w'.heap[k]? = w.heap[k]?
theorem Fr.refl (rb B : Nat) (w : World) : Fr rb B w w := ⟨rfl, rfl, rfl, Nat.le_refl _, fun _ _ _ => rfl⟩
theorem Fr.trans {rb B : Nat} {a b c : World} (h : Fr rb B a b) (k : Fr rb B b c) : Fr rb B a c :=
  ⟨k.os.trans h.os, k.tape.trans h.tape, k.output.trans h.output, Nat.le_trans h.size k.size, fun i hi hr => (k.block i hi hr).trans (h.block i hi hr)⟩
theorem Fr.mono {rb B B' : Nat} {w w' : World} (h : Fr rb B w w') (hB : B' ≤ B) : Fr rb B' w w' := ⟨h.os, h.tape, h.output, h.size, fun k hk hr => h.block k (by omega) hr⟩
theorem Fr.of {rb B : Nat} {w w' : World} (h : Below B w w') : Fr rb B w w' := ⟨h.os, h.tape, h.output, h.size, fun k hk _ => h.block k hk⟩
theorem Fr.below {rb B B' : Nat} {w w' : World} (h : Fr rb B w w') (h1 : B' ≤ B) (h2 : B' ≤ rb) : Below B' w w' := ⟨h.os, h.tape, h.output, h.size, fun k hk => h.block k (by omega) (by omega)⟩
theorem Fr.alloc {rb B : Nat} {a w : World} (h : Fr rb B a w) (hB : B ≤ w.heap.size) (o : Obj) : Fr rb B a (w.alloc o) := h.trans (.of ((Below.refl _ _).alloc hB o))
theorem Fr.setCell {rb B : Nat} {a w : World} (h : Fr rb B a w) {p : Addr} (hp : B ≤ p.block) (u : Value) : Fr rb B a (w.setCell p u) := h.trans (.of ((Below.refl _ _).setCell hp u))
theorem Fr.put {rb B : Nat} {a w : World} (h : Fr rb B a w) (i : Nat) (u : Value) : Fr rb B a (w.setCell ⟨rb, i, none⟩ u) :=
  h.trans ⟨rfl, rfl, rfl, by simp [World.setCell], fun k _ hr => Below.heap_setCell _ _ _ _ hr⟩
theorem Fr.grown {rb B : Nat} {a w w' : World} {row : Option Nat} (h : Fr rb B a w) (hg : w.grownBy w' row) (hB : B ≤ w.heap.size) (hr : ∀ k, row = some k → B ≤ k) : Fr rb B a w' := h.trans (.of ((Below.refl _ _).grown hg hB hr))
theorem Fr.step {rb : Nat} {w w1 w2 : World} (h : Fr rb w.heap.size w w1) (h' : Fr rb w1.heap.size w1 w2) : Fr rb w.heap.size w w2 := h.trans (h'.mono h.size)
theorem Fr.cell {rb B : Nat} {w w' : World} (h : Fr rb B w w') {p : Addr} (hp : p.block < B) (hr : p.block ≠ rb) : w'.cell? p = w.cell? p := World.cell?_of_block (w := w) (h.block p.block hp hr)
theorem Fr.row {rb B g t : Nat} {w w' : World} {cs : Array Value} (h : Fr rb B w w') (hr : RowB w g t cs) (hg : g < B) (hn : g ≠ rb) : RowB w' g t cs := (h.block g hg hn).trans hr
theorem Fr.own {rb : Nat} {w w' : World} {base e size n : Nat} {v : Value} {xs : List Value} (hb : Fr rb w.heap.size w w') (h : w.ownsRow base e size v n xs) (hr : rb < base) : w'.ownsRow base e size v n xs := by
  have hlt := h.lt
  refine ⟨h.1, ?_⟩
  rcases h.2 with ⟨hv, hn⟩ | ⟨g, cap, cur, rfl, h1, h2, h3⟩
  · exact .inl ⟨hv, hn⟩
  · have := hlt g rfl
    exact .inr ⟨g, cap, cur, rfl, h1, (hb.block g this.2 (by omega)).trans h2, h3⟩

theorem bel1 (w : World) (o1 : Obj) : Below w.heap.size w (w.alloc o1) := (Below.refl _ _).alloc (Nat.le_refl _) _
namespace Vm
/-- The order of texts, byte by byte. -/
def lt (a b : ByteArray) : Bool := Op.bytesLess a.toList b.toList
theorem less_eq : ∀ x y : List UInt8, Op.bytesLess x y = decide (x < y)
  | [], [] => by simp [Op.bytesLess]
  | _ :: _, [] => by simp [Op.bytesLess]
  | [], _ :: _ => by simp [Op.bytesLess]
  | a :: x, b :: y => by
    rw [Op.bytesLess, less_eq x y]
    simp only [List.cons_lt_cons_iff]
    by_cases h1 : a < b <;> by_cases h2 : a = b <;> by_cases h3 : x < y <;> simp [h1, h2, h3]
theorem ba_ext {a b : ByteArray} (h : a.toList = b.toList) : a = b := by
  rw [ByteArray.toList_eq, ByteArray.toList_eq] at h
  cases a; cases b
  simp only at h
  rw [Array.toList_inj] at h
  rw [h]
theorem lt_iff {a b : ByteArray} : lt a b = true ↔ a.toList < b.toList := by rw [lt, less_eq]; simp
theorem lt_irrefl (a : ByteArray) : lt a a = false := by rw [lt, less_eq]; simp
theorem lt_trans {a b c : ByteArray} (h : lt a b = true) (k : lt b c = true) : lt a c = true := by
  rw [lt_iff] at *
  exact List.lt_trans h k
theorem lt_asymm {a b : ByteArray} (h : lt a b = true) : lt b a = false := by
  cases k : lt b a
  · rfl
  · have := lt_trans h k
    rw [lt_irrefl] at this
    cases this
theorem lt_tri {a b : ByteArray} (h : lt a b = false) (k : lt b a = false) : a = b := by
  rw [lt, less_eq] at *
  have h := of_decide_eq_false h
  have k := of_decide_eq_false k
  exact ba_ext (List.le_antisymm k h)
theorem lt_ne {a b : ByteArray} (h : lt a b = true) : a ≠ b := by
  rintro rfl
  rw [lt_irrefl] at h
  cases h
theorem beq_ba {a b : ByteArray} : (a.toList == b.toList) = decide (a = b) := by
  by_cases h : a = b
  · subst h; simp
  · have : a.toList ≠ b.toList := fun e => h (ba_ext e)
    simp [h, this]

/-- Do names rise? -/
def riseB : List ByteArray → Bool
  | a :: b :: l => lt a b && riseB (b :: l)
  | _ => true
theorem rise_lt : ∀ {n : ByteArray} {ns : List ByteArray}, riseB (n :: ns) = true → ∀ x ∈ ns, lt n x = true
  | n, m :: ns, h, x, hx => by
    rw [riseB, Bool.and_eq_true] at h
    rcases List.mem_cons.1 hx with rfl | hx
    · exact h.1
    · exact lt_trans h.1 (rise_lt h.2 x hx)
theorem rise_tail {n : ByteArray} {ns : List ByteArray} (h : riseB (n :: ns) = true) : riseB ns = true := by
  cases ns with
  | nil => rfl
  | cons m ns => rw [riseB, Bool.and_eq_true] at h; exact h.2
theorem rise_nodup : ∀ {ns : List ByteArray}, riseB ns = true → ns.Nodup
  | [], _ => List.nodup_nil
  | n :: _ns, h => List.nodup_cons.2 ⟨fun hm => lt_ne (rise_lt h n hm) rfl, rise_nodup (rise_tail h)⟩
/-- Where names rise the order of places is that of names. -/
theorem rise_get {ns : List ByteArray} (h : riseB ns = true) {i j : Nat} (hij : i < j) (hj : j < ns.length) : lt (ns[i]'(by omega)) ns[j] = true := by
  induction ns generalizing i j with
  | nil => simp at hj
  | cons n ns ih =>
    cases j with
    | zero => omega
    | succ j =>
      cases i with
      | zero => exact rise_lt h _ (List.getElem_mem _)
      | succ i => exact ih (rise_tail h) (by omega) (by simpa using hj)
theorem take_same {α : Type} {l m : List α} {i : Nat} {a b : α} (h : l.take i = m.take i) (e : l[i]? = some a) (e' : m[i]? = some b) (k : a = b) : l.take (i + 1) = m.take (i + 1) := by
  rw [List.take_add_one, List.take_add_one, h, e, e', k]
theorem get_lt {α : Type} {l : List α} {i : Nat} (h : i < l.length) : ∃ t, l[i]? = some t := ⟨l[i], List.getElem?_eq_getElem h⟩
theorem ne_at {α : Type} {l m : List α} {i : Nat} {a b : α} (e : l[i]? = some a) (e' : m[i]? = some b) (k : a ≠ b) : l ≠ m := fun h => by
  rw [h, e'] at e
  injection e with e
  exact k e.symm
theorem eq_of_take {α : Type} {l m : List α} {n : Nat} (h : l.take n = m.take n) (h1 : n = l.length) (h2 : n = m.length) : l = m := by
  rw [List.take_of_length_le (by omega), List.take_of_length_le (by omega)] at h
  exact h

/-- Two rows of cells of two types lie apart. -/
theorem own_apart {w : World} {b1 b2 e1 e2 s1 s2 n m : Nat} {u v : Value} {xs ys : List Value} (h1 : w.ownsRow b1 e1 s1 u n xs) (h2 : w.ownsRow b2 e2 s2 v m ys) (he : e1 ≠ e2) : u.ownBlock = none ∨ u.ownBlock ≠ v.ownBlock := by
  rcases h1.2 with ⟨rfl, _⟩ | ⟨g, cap, cur, rfl, _, hg, _⟩
  · exact .inl rfl
  · refine .inr fun e => ?_
    rcases h2.2 with ⟨rfl, _⟩ | ⟨g', cap', cur', rfl, _, hg', _⟩
    · simp [Value.ownBlock] at e
    · simp only [Value.ownBlock, Option.some.injEq] at e
      subst e
      rw [hg] at hg'
      simp at hg'
      exact he hg'.2
theorem own_keep {w w' : World} {b e s n : Nat} {v : Value} {xs : List Value} {k : Option Nat} (h : w.ownsRow b e s v n xs) (hg : w.grownBy w' k) (hne : v.ownBlock = none ∨ v.ownBlock ≠ k) : w'.ownsRow b e s v n xs := by
  refine ⟨h.1, ?_⟩
  rcases h.2 with ⟨hv, hn⟩ | ⟨g, cap, cur, rfl, h1, h2, h3⟩
  · exact .inl ⟨hv, hn⟩
  · have hlt : g < w.heap.size := (h.lt g rfl).2
    refine .inr ⟨g, cap, cur, rfl, h1, (hg.block g hlt ?_).trans h2, h3⟩
    rcases hne with e | e
    · simp [Value.ownBlock] at e
    · exact e
theorem rise_snoc {l : List ByteArray} {x : ByteArray} (h : riseB l = true) (k : ∀ y, l.getLast? = some y → lt y x = true) : riseB (l ++ [x]) = true := by
  induction l with
  | nil => rfl
  | cons a l ih =>
    cases l with
    | nil => simp only [List.cons_append, List.nil_append, riseB, Bool.and_true]; exact k a (by simp)
    | cons b l =>
      rw [riseB, Bool.and_eq_true] at h
      rw [List.cons_append, List.cons_append, riseB, Bool.and_eq_true]
      exact ⟨h.1, ih h.2 fun y hy => k y (by simpa using hy)⟩
theorem nodup_at {α : Type} {l : List α} (h : l.Nodup) {i j : Nat} {x : α} (e : l[i]? = some x) (e' : l[j]? = some x) : i = j := by
  obtain ⟨h1, h2⟩ := List.getElem?_eq_some_iff.1 e
  obtain ⟨h3, h4⟩ := List.getElem?_eq_some_iff.1 e'
  exact (List.getElem_inj h).1 (h2.trans h4.symm)
/-- x put ahead of what stands at i. -/
def insAt {α : Type} (l : List α) (i : Nat) (x : α) : List α := l.take i ++ x :: l.drop i
theorem insAt_len {α : Type} (l : List α) (i : Nat) (x : α) : (insAt l i x).length = l.length + 1 := by
  unfold insAt
  rw [List.length_append, List.length_cons, List.length_take, List.length_drop]
  omega
theorem insAt_mem {α : Type} {l : List α} {i : Nat} {x y : α} : y ∈ insAt l i x ↔ y = x ∨ y ∈ l := by
  unfold insAt
  rw [List.mem_append, List.mem_cons]
  constructor
  · rintro (h | h | h)
    · exact .inr (List.mem_of_mem_take h)
    · exact .inl h
    · exact .inr (List.mem_of_mem_drop h)
  · rintro (h | h)
    · exact .inr (.inl h)
    · rw [← List.take_append_drop i l, List.mem_append] at h
      rcases h with h | h
      · exact .inl h
      · exact .inr (.inr h)
theorem insAt_zip {α β : Type} : ∀ {l : List α} {m : List β} (i : Nat) (x : α) (y : β), l.length = m.length → (insAt l i x).zip (insAt m i y) = insAt (l.zip m) i (x, y)
  | _, _, 0, _, _, _ => by simp [insAt]
  | [], [], _ + 1, _, _, _ => by simp [insAt]
  | [], _ :: _, _, _, _, h => by simp at h
  | _ :: _, [], _, _, _, h => by simp at h
  | a :: l, b :: m, i + 1, x, y, h => by
    have ih := insAt_zip (l := l) (m := m) i x y (by simpa using h)
    unfold insAt at ih ⊢
    simp only [List.take_succ_cons, List.drop_succ_cons, List.cons_append, List.zip_cons_cons, ih]
theorem rise_hcons {a : ByteArray} {l : List ByteArray} (h : riseB l = true) (k : ∀ y, l.head? = some y → lt a y = true) : riseB (a :: l) = true := by
  cases l with
  | nil => rfl
  | cons b l => rw [riseB, Bool.and_eq_true]; exact ⟨k b rfl, h⟩
theorem rise_htail {a : ByteArray} {l : List ByteArray} (h : riseB (a :: l) = true) : riseB l = true ∧ ∀ y, l.head? = some y → lt a y = true := by
  cases l with
  | nil => exact ⟨rfl, fun y h => by simp at h⟩
  | cons b l =>
    rw [riseB, Bool.and_eq_true] at h
    exact ⟨h.2, fun y hy => by simp at hy; rw [← hy]; exact h.1⟩
theorem ins_rise {x : ByteArray} : ∀ {l : List ByteArray} (i : Nat), riseB l = true → (∀ y ∈ l.take i, lt y x = true) → (∀ y, l[i]? = some y → lt x y = true) → riseB (insAt l i x) = true
  | [], _, _, _, _ => by simp [insAt, riseB]
  | b :: l, 0, h, _, k => by
    unfold insAt
    simp only [List.take_zero, List.nil_append, List.drop_zero]
    exact rise_hcons h fun y hy => by simp at hy; exact k y (by simpa using hy)
  | b :: l, i + 1, h, h1, k => by
    obtain ⟨hl, hb⟩ := rise_htail h
    have ih := ins_rise (l := l) i hl (fun y hy => h1 y (by simp [hy])) (fun y hy => k y (by simpa using hy))
    unfold insAt at ih ⊢
    simp only [List.take_succ_cons, List.drop_succ_cons, List.cons_append]
    refine rise_hcons ih fun y hy => ?_
    cases i with
    | zero =>
      simp at hy
      rw [← hy]
      exact h1 b (by simp)
    | succ i =>
      cases l with
      | nil =>
        simp at hy
        rw [← hy]
        exact h1 b (by simp)
      | cons c l =>
        simp at hy
        exact hb y (by simpa using hy)
/-- What stands where x would be put. -/
theorem ins_no {l : List ByteArray} {x : ByteArray} {i : Nat} (h : riseB l = true) (h1 : ∀ y ∈ l.take i, lt y x = true) (h2 : ∀ y, l[i]? = some y → lt x y = true) : x ∉ l := by
  have hn := rise_nodup (ins_rise i h h1 h2)
  unfold insAt at hn
  rw [List.nodup_append] at hn
  intro hx
  rw [← List.take_append_drop i l, List.mem_append] at hx
  rcases hx with hx | hx
  · exact hn.2.2 x hx x List.mem_cons_self rfl
  · exact (List.nodup_cons.1 hn.2.1).1 hx
theorem nodup_next {ns : List ByteArray} {x : ByteArray} {i : Nat} (e : ns[i]? = some x) (h : (ns.take i).Nodup) (hx : x ∉ ns.take i) : (ns.take (i + 1)).Nodup := by
  rw [List.take_add_one, e]
  simp only [Option.toList_some]
  rw [List.nodup_append]
  refine ⟨h, by simp, fun a ha b hb => ?_⟩
  obtain rfl := List.mem_singleton.1 hb
  exact fun e => hx (e ▸ ha)
theorem nodup_not {ns : List ByteArray} {x : ByteArray} {i : Nat} (e : ns[i]? = some x) (hx : x ∈ ns.take i) : ¬ ns.Nodup := fun h => by
  rw [← List.take_append_drop i ns, List.nodup_append] at h
  have hd : x ∈ ns.drop i := List.mem_of_getElem? (i := 0) (by rw [List.getElem?_drop]; exact e)
  exact h.2.2 x hx x hd rfl
theorem own_shape {w : World} {base e s n : Nat} {v : Value} {xs : List Value} (h : w.ownsRow base e s v n xs) : ∃ A cap, v = .slice A n cap ∧ n ≤ cap := by
  rcases h.2 with ⟨hv, rfl⟩ | ⟨g, cap, cur, hv, _, _, h1, _⟩
  · exact ⟨none, 0, hv, Nat.le_refl _⟩
  · exact ⟨_, cap, hv, h1⟩
theorem take_next {α β : Type} (f : α → β) {l : List α} {i : Nat} {p : α} (h : l[i]? = some p) : (l.take (i + 1)).map f = (l.take i).map f ++ [f p] := by
  rw [List.take_add_one, h]; simp
theorem tkmem {α : Type} {l : List α} {i : Nat} {x : α} (h : x ∈ l.take i) : x ∈ l := List.mem_of_mem_take h
end Vm
end Go.Proofs.YtbjlhdjcdinmhaaDoor
