import Derived.Deep.LoopGhost
import Derived.Deep.CutRange
import Derived.Deep.OwnRows
import Derived.Test.YtnefnnoleeeedaaMAA
import Derived.BigQuiet
import Derived.Laws.AppendOwn
import Derived.Maps.OwnSet
import Derived.Deep.AppendLies
import Derived.Deep.RegionHeld3
namespace Go.Proofs.Ytnefnnoleeeedaa
open Go.RowKit
structure Fr (rb B : Nat) (w w' : World) : Prop where
  os : w'.os = w.os
  tape : w'.tape = w.tape
  output : w'.output = w.output
  size : w.heap.size ≤ w'.heap.size
  block : ∀ k, k < B → k ≠ rb → w'.heap[k]? = w.heap[k]?
theorem Fr.refl (rb B : Nat) (w : World) : Fr rb B w w := ⟨rfl, rfl, rfl, Nat.le_refl _, fun _ _ _ => rfl⟩
theorem Fr.trans {rb B : Nat} {a b c : World} (h : Fr rb B a b) (k : Fr rb B b c) : Fr rb B a c :=
  ⟨k.os.trans h.os, k.tape.trans h.tape, k.output.trans h.output, Nat.le_trans h.size k.size, fun i hi hr => (k.block i hi hr).trans (h.block i hi hr)⟩
theorem Fr.mono {rb B B' : Nat} {w w' : World} (h : Fr rb B w w') (hB : B' ≤ B) : Fr rb B' w w' := ⟨h.os, h.tape, h.output, h.size, fun k hk hr => h.block k (by omega) hr⟩
theorem Fr.of {rb B : Nat} {w w' : World} (h : Below B w w') : Fr rb B w w' := ⟨h.os, h.tape, h.output, h.size, fun k hk _ => h.block k hk⟩
theorem Fr.below {rb B B' : Nat} {w w' : World} (h : Fr rb B w w') (h1 : B' ≤ B) (h2 : B' ≤ rb) : Below B' w w' := ⟨h.os, h.tape, h.output, h.size, fun k hk => h.block k (by omega) (by omega)⟩
theorem Fr.alloc {rb B : Nat} {a w : World} (h : Fr rb B a w) (hB : B ≤ w.heap.size) (o : Obj) : Fr rb B a (w.alloc o) := h.trans (.of ((Below.refl _ _).alloc hB o))
theorem Fr.setCell {rb B : Nat} {a w : World} (h : Fr rb B a w) {p : Addr} (hp : B ≤ p.block) (u : Value) : Fr rb B a (w.setCell p u) := h.trans (.of ((Below.refl _ _).setCell hp u))
theorem Fr.put {rb B : Nat} {a w : World} (h : Fr rb B a w) (i : Nat) (u : Value) : Fr rb B a (w.setCell ⟨rb, i, none⟩ u) :=
  h.trans ⟨rfl, rfl, rfl, by simp [World.setCell], fun k _ hr => Below.heap_setCell _ _ _ _ hr⟩
theorem Fr.grown {rb B : Nat} {a w w' : World} {row : Option Nat} (h : Fr rb B a w) (hg : w.grownBy w' row) (hB : B ≤ w.heap.size) (hr : ∀ k, row = some k → B ≤ k) : Fr rb B a w' := h.trans (.of ((Below.refl _ _).grown hg hB hr))
theorem Fr.step {rb : Nat} {w w1 w2 : World} (h : Fr rb w.heap.size w w1) (h' : Fr rb w1.heap.size w1 w2) : Fr rb w.heap.size w w2 := h.trans (h'.mono h.size)
theorem Fr.cell {rb B : Nat} {w w' : World} (h : Fr rb B w w') {p : Addr} (hp : p.block < B) (hr : p.block ≠ rb) : w'.cell? p = w.cell? p := World.cell?_of_block (w := w) (h.block p.block hp hr)
theorem Fr.row {rb B g t : Nat} {w w' : World} {cs : Array Value} (h : Fr rb B w w') (hr : RowB w g t cs) (hg : g < B) (hn : g ≠ rb) : RowB w' g t cs := (h.block g hg hn).trans hr
theorem Fr.own {rb : Nat} {w w' : World} {base e size n : Nat} {v : Value} {xs : List Value} (hb : Fr rb w.heap.size w w') (h : w.ownsRow base e size v n xs) (hr : rb < base) : w'.ownsRow base e size v n xs := by
  have hlt := h.lt
  refine ⟨h.1, ?_⟩
  rcases h.2 with ⟨hv, hn⟩ | ⟨g, cap, cur, rfl, h1, h2, h3⟩
  · exact .inl ⟨hv, hn⟩
  · have := hlt g rfl
    exact .inr ⟨g, cap, cur, rfl, h1, (hb.block g this.2 (by omega)).trans h2, h3⟩
theorem bel1 (w : World) (o1 : Obj) : Below w.heap.size w (w.alloc o1) := (Below.refl _ _).alloc (Nat.le_refl _) _
namespace Ps
def FC (w : World) (P : Nat → Prop) : Fo → List Value → Prop
  | .nil, cs => cs = []
  | .cons h k r, cs => ∃ A cap cs', cs = [.int .i64 h.kind, .int .i64 h.fro, .int .i64 h.til, .string h.word, .int .i64 h.at_, .slice A k.len cap] ++ cs' ∧ k.len ≤ cap ∧
      (0 < k.len → ∃ (g o : Nat) (ck : List Value), A = some ⟨g, o, none⟩ ∧ P g ∧ g < w.heap.size ∧ (∀ j u, ck[j]? = some u → w.cell? ⟨g, o + j, none⟩ = some u) ∧ FC w P k ck) ∧ FC w P r cs'
def KV (w : World) (P : Nat → Prop) (k : Fo) (A : Option Addr) (cap : Nat) : Prop :=
  k.len ≤ cap ∧ (0 < k.len → ∃ (g o : Nat) (ck : List Value), A = some ⟨g, o, none⟩ ∧ P g ∧ g < w.heap.size ∧ (∀ j u, ck[j]? = some u → w.cell? ⟨g, o + j, none⟩ = some u) ∧ FC w P k ck)
theorem FC.cons {w : World} {P : Nat → Prop} {h : Hd} {k r : Fo} {A : Option Addr} {cap : Nat} {cs : List Value} (hk : KV w P k A cap) (hr : FC w P r cs) :
    FC w P (.cons h k r) ([.int .i64 h.kind, .int .i64 h.fro, .int .i64 h.til, .string h.word, .int .i64 h.at_, .slice A k.len cap] ++ cs) := by
  rw [FC]
  exact ⟨A, cap, cs, rfl, hk.1, hk.2, hr⟩
theorem FC.one {w : World} {P : Nat → Prop} {h : Hd} {k : Fo} {A : Option Addr} {cap : Nat} (hk : KV w P k A cap) :
    FC w P (.one h k) [.int .i64 h.kind, .int .i64 h.fro, .int .i64 h.til, .string h.word, .int .i64 h.at_, .slice A k.len cap] := by
  have := FC.cons (h := h) (r := .nil) (cs := []) hk (by rw [FC])
  exact this
theorem FC.keep {w w' : World} {P Q : Nat → Prop} (hs : w.heap.size ≤ w'.heap.size) (hb : ∀ g, P g → g < w.heap.size → w'.heap[g]? = w.heap[g]? ∧ Q g) : ∀ (f : Fo) (cs : List Value), FC w P f cs → FC w' Q f cs
  | .nil, cs, h => by rw [FC] at h ⊢; exact h
  | .cons hd k r, cs, h => by
    rw [FC] at h ⊢
    obtain ⟨A, cap, cs', e, hc, hk, hr⟩ := h
    refine ⟨A, cap, cs', e, hc, fun h0 => ?_, FC.keep hs hb r cs' hr⟩
    obtain ⟨g, o, ck, e1, h1, h2, h3, h4⟩ := hk h0
    obtain ⟨b1, b2⟩ := hb g h1 h2
    exact ⟨g, o, ck, e1, b2, Nat.lt_of_lt_of_le h2 hs, fun j u hu => (World.cell?_of_block (w := w) b1).trans (h3 j u hu), FC.keep hs hb k ck h4⟩
theorem KV.keep {w w' : World} {P Q : Nat → Prop} (hs : w.heap.size ≤ w'.heap.size) (hb : ∀ g, P g → g < w.heap.size → w'.heap[g]? = w.heap[g]? ∧ Q g) {k : Fo} {A : Option Addr} {cap : Nat} (h : KV w P k A cap) : KV w' Q k A cap := by
  refine ⟨h.1, fun h0 => ?_⟩
  obtain ⟨g, o, ck, e1, h1, h2, h3, h4⟩ := h.2 h0
  obtain ⟨b1, b2⟩ := hb g h1 h2
  exact ⟨g, o, ck, e1, b2, Nat.lt_of_lt_of_le h2 hs, fun j u hu => (World.cell?_of_block (w := w) b1).trans (h3 j u hu), FC.keep hs hb k ck h4⟩
theorem FC.app {w : World} {P : Nat → Prop} : ∀ (a : Fo) (ca : List Value) {b : Fo} {cb : List Value}, FC w P a ca → FC w P b cb → FC w P (a.app b) (ca ++ cb)
  | .nil, ca, b, cb, h, h' => by rw [FC] at h; subst h; exact h'
  | .cons hd k r, ca, b, cb, h, h' => by
    rw [FC] at h
    obtain ⟨A, cap, cs', e, hc, hk, hr⟩ := h
    rw [Fo.app, FC]
    exact ⟨A, cap, cs' ++ cb, by rw [e, List.append_assoc], hc, hk, FC.app r cs' hr h'⟩
theorem FC.len {w : World} {P : Nat → Prop} : ∀ (a : Fo) (ca : List Value), FC w P a ca → ca.length = a.len * 6
  | .nil, ca, h => by rw [FC] at h; subst h; rfl
  | .cons hd k r, ca, h => by
    rw [FC] at h
    obtain ⟨A, cap, cs', e, hc, hk, hr⟩ := h
    have := FC.len r cs' hr
    rw [e, Fo.len, List.length_append, this]
    simp
    omega
theorem KV.nil (w : World) (P : Nat → Prop) (A : Option Addr) (cap : Nat) : KV w P .nil A cap := ⟨Nat.zero_le _, fun h => by simp [Fo.len] at h⟩
theorem KV.of_own {w : World} {base n cap : Nat} {P Q : Nat → Prop} {A : Option Addr} {k : Fo} {cs : List Value} (h : w.ownsRow base 25 6 (.slice A n cap) n cs) (hn : n = k.len) (hf : FC w P k cs) (hP : ∀ g, P g → Q g) (hb : ∀ g, base ≤ g → (Value.slice A n cap).ownBlock = some g → Q g) (hc : n ≤ cap) : KV w Q k A cap := by
  subst hn
  refine ⟨hc, fun h0 => ?_⟩
  have hlt := h.lt
  rcases h.2 with ⟨hv, hx⟩ | ⟨g, cap', cur, hv, h1, h2, h3⟩
  · omega
  · injection hv with e1 _ _
    subst e1
    have := (hlt g rfl)
    refine ⟨g, 0, cs, rfl, hb g this.1 rfl, this.2, fun j u hu => ?_, FC.keep (Nat.le_refl _) (fun g hg _ => ⟨rfl, hP g hg⟩) k cs hf⟩
    have := h.cells (g := g) rfl j u hu
    simp only [Addr.add] at this
    by_cases hj : j = 0 <;> simpa [hj] using this
theorem KV.new {w : World} {g : Nat} {P : Nat → Prop} {k : Fo} {cs : Array Value} (h : RowB w g 25 cs) (hf : FC w P k cs.toList) (hb : P g) : KV w P k (some ⟨g, 0, none⟩) k.len :=
  ⟨Nat.le_refl _, fun _ => ⟨g, 0, cs.toList, rfl, hb, h.lt, fun j u hu => by rw [Nat.zero_add, h.cell j]; simpa using hu, hf⟩⟩
structure Cx where
  rb : Nat
  A : Option Addr
  l : List Tok
  c : Nat
abbrev Cx.p (X : Cx) : Value := .pointer (some ⟨X.rb, 0, none⟩)
structure Wf (l : List Tok) : Prop where
  pos : 0 < l.length
  next : ∀ i (h : i < l.length), l[i].kind ≠ 0 → i + 1 < l.length
  le : l.length ≤ 4000
structure St (X : Cx) (w : World) (b : Int) : Prop where
  row : RowB w X.rb 87 #[.slice X.A X.l.length X.c, .int .i64 b]
  toks : ∃ g, X.A = some ⟨g, 0, none⟩ ∧ g < X.rb ∧ ∀ i (h : i < X.l.length),
    w.cell? ⟨g, i * 4, none⟩ = some (.int .i64 X.l[i].kind) ∧ w.cell? ⟨g, i * 4 + 1, none⟩ = some (.int .i64 X.l[i].at_) ∧ w.cell? ⟨g, i * 4 + 2, none⟩ = some (.string X.l[i].lead) ∧ w.cell? ⟨g, i * 4 + 3, none⟩ = some (.string X.l[i].text)
  wf : Wf X.l
  cap : X.l.length ≤ X.c
  bl : b < X.l.length
theorem St.below {X : Cx} {w w' : World} {b : Int} (h : St X w b) (hb : Below w.heap.size w w') : St X w' b := by
  have hl := h.row.lt
  refine ⟨h.row.below hb hl, ?_, h.wf, h.cap, h.bl⟩
  obtain ⟨g, e, hg, hc⟩ := h.toks
  refine ⟨g, e, hg, fun i hi => ?_⟩
  obtain ⟨c0, c1, c2, c3⟩ := hc i hi
  have hg' : g < w.heap.size := by omega
  exact ⟨(hb.cell (p := ⟨g, i * 4, none⟩) hg').trans c0, (hb.cell (p := ⟨g, i * 4 + 1, none⟩) hg').trans c1, (hb.cell (p := ⟨g, i * 4 + 2, none⟩) hg').trans c2, (hb.cell (p := ⟨g, i * 4 + 3, none⟩) hg').trans c3⟩
theorem St.alloc {X : Cx} {w : World} {b : Int} (h : St X w b) (o : Obj) : St X (w.alloc o) b := h.below ((Below.refl _ _).alloc (Nat.le_refl _) o)
theorem St.far {X : Cx} {w : World} {b : Int} (h : St X w b) {p : Addr} (hp : X.rb < p.block) (u : Value) : St X (w.setCell p u) b := by
  refine ⟨h.row.far (by omega) u, ?_, h.wf, h.cap, h.bl⟩
  obtain ⟨g, e, hg, hc⟩ := h.toks
  refine ⟨g, e, hg, fun i hi => ?_⟩
  obtain ⟨c0, c1, c2, c3⟩ := hc i hi
  have hb : Below (X.rb + 1) w (w.setCell p u) := (Below.refl _ _).setCell hp u
  have hg' : g < X.rb + 1 := by omega
  exact ⟨(hb.cell (p := ⟨g, i * 4, none⟩) hg').trans c0, (hb.cell (p := ⟨g, i * 4 + 1, none⟩) hg').trans c1, (hb.cell (p := ⟨g, i * 4 + 2, none⟩) hg').trans c2, (hb.cell (p := ⟨g, i * 4 + 3, none⟩) hg').trans c3⟩
theorem St.grown {X : Cx} {w w' : World} {b : Int} {row : Option Nat} (h : St X w b) (hg : w.grownBy w' row) (hr : ∀ k, row = some k → X.rb < k) : St X w' b := by
  have hl := h.row.lt
  have hb : Below (X.rb + 1) w w' := (Below.refl _ _).grown hg (by omega) (fun k hk => hr k hk)
  refine ⟨h.row.below hb (by omega), ?_, h.wf, h.cap, h.bl⟩
  obtain ⟨g, e, hg, hc⟩ := h.toks
  refine ⟨g, e, hg, fun i hi => ?_⟩
  obtain ⟨c0, c1, c2, c3⟩ := hc i hi
  have hg' : g < X.rb + 1 := by omega
  exact ⟨(hb.cell (p := ⟨g, i * 4, none⟩) hg').trans c0, (hb.cell (p := ⟨g, i * 4 + 1, none⟩) hg').trans c1, (hb.cell (p := ⟨g, i * 4 + 2, none⟩) hg').trans c2, (hb.cell (p := ⟨g, i * 4 + 3, none⟩) hg').trans c3⟩
theorem St.stop {X : Cx} {w : World} {b : Int} (h : St X w b) (b' : Int) (hbl : b' < X.l.length) : St X (w.setCell ⟨X.rb, 1, none⟩ (.int .i64 b')) b' := by
  have hr := h.row.put 1 (.int .i64 b')
  refine ⟨hr, ?_, h.wf, h.cap, hbl⟩
  obtain ⟨g, e, hg, hc⟩ := h.toks
  refine ⟨g, e, hg, fun i hi => ?_⟩
  obtain ⟨c0, c1, c2, c3⟩ := hc i hi
  have hb : Below X.rb w (w.setCell ⟨X.rb, 1, none⟩ (.int .i64 b')) := (Below.refl _ _).setCell (p := ⟨X.rb, 1, none⟩) (Nat.le_refl _) _
  exact ⟨(hb.cell (p := ⟨g, i * 4, none⟩) hg).trans c0, (hb.cell (p := ⟨g, i * 4 + 1, none⟩) hg).trans c1, (hb.cell (p := ⟨g, i * 4 + 2, none⟩) hg).trans c2, (hb.cell (p := ⟨g, i * 4 + 3, none⟩) hg).trans c3⟩
end Ps
end Go.Proofs.Ytnefnnoleeeedaa
namespace Go.Proofs.Ytnefnnoleeeedaa
open Go.RowKit
namespace Ps
theorem isM_next {l : List Tok} (h : Wf l) {i : Nat} {x : List UInt8} (hi : isM l i x = true) : i + 1 < l.length := by
  unfold isM at hi
  by_cases hl : i < l.length
  · rw [List.getElem?_eq_getElem hl] at hi
    simp only [Bool.and_eq_true, Bool.or_eq_true, beq_iff_eq] at hi
    exact h.next i hl (by omega)
  · rw [List.getElem?_eq_none (by omega)] at hi
    cases hi
theorem kindAt_next {l : List Tok} (h : Wf l) {i : Nat} (hi : kindAt l i ≠ 0) : i + 1 < l.length := by
  unfold kindAt at hi
  by_cases hl : i < l.length
  · rw [List.getElem?_eq_getElem hl] at hi
    exact h.next i hl hi
  · rw [List.getElem?_eq_none (by omega)] at hi
    exact absurd rfl hi
theorem wantM_lt {l : List Tok} (h : Wf l) {b : Int} {i : Nat} {x : List UInt8} (hi : i < l.length) : (wantM l b i x).1 < l.length := by
  unfold wantM
  split
  · exact hi
  · split
    · rename_i h1; exact isM_next h h1
    · exact hi
theorem wordM_lt {l : List Tok} (h : Wf l) {b : Int} {hd : Hd} {i : Nat} (hi : i < l.length) : (wordM l b hd i).2.1 < l.length := by
  unfold wordM
  split
  · exact hi
  · split
    · rename_i h1; exact kindAt_next h (by omega)
    · exact hi
theorem kindAt_get {l : List Tok} {i : Nat} (h : i < l.length) : kindAt l i = l[i].kind := by unfold kindAt; rw [List.getElem?_eq_getElem h]; rfl
theorem textAt_get {l : List Tok} {i : Nat} (h : i < l.length) : textAt l i = l[i].text := by unfold textAt; rw [List.getElem?_eq_getElem h]; rfl
end Ps
end Go.Proofs.Ytnefnnoleeeedaa
namespace Go.Proofs.Ytnefnnoleeeedaa
namespace Ps
variable {l : List Tok}
def mm (l : List Tok) (b : Int) (i : Nat) : Nat := if 0 ≤ b then 0 else l.length - i
def Tm (l : List Tok) (b : Int) (i d : Nat) (o : Res) : Prop := ∃ r, o = some r ∧ (r.2.2 < 0 → r.2.1 < l.length) ∧ mm l r.2.2 r.2.1 ≤ mm l b i - d
theorem mm_bad {b : Int} {i : Nat} (h : 0 ≤ b) : mm l b i = 0 := by unfold mm; rw [if_pos h]
theorem mm_good {b : Int} {i : Nat} (h : b < 0) : mm l b i = l.length - i := by unfold mm; rw [if_neg (by omega)]
theorem mm_pos {b : Int} {i : Nat} (h : b < 0) (hi : b < 0 → i < l.length) : 1 ≤ mm l b i := by have := hi h; rw [mm_good h]; omega
theorem want_T (W : Wf l) {b : Int} {i : Nat} (x : List UInt8) (_hi : b < 0 → i < l.length) : ((wantM l b i x).2 < 0 → (wantM l b i x).1 < l.length) ∧ mm l (wantM l b i x).2 (wantM l b i x).1 ≤ mm l b i - 1 := by
  by_cases hb : 0 ≤ b
  · rw [wantM_bad hb]; dsimp only; rw [mm_bad hb]; exact ⟨fun h => absurd h (by omega), by omega⟩
  · unfold wantM
    rw [if_neg hb]
    by_cases hm : isM l i x = true
    · rw [if_pos hm]
      have := isM_next W hm
      dsimp only
      rw [mm_good (by omega), mm_good (by omega)]
      exact ⟨fun _ => this, by omega⟩
    · rw [if_neg hm]; dsimp only; rw [mm_bad (b := (i : Int)) (by omega)]; exact ⟨fun h => absurd h (by omega), by omega⟩
theorem word_T (W : Wf l) {b : Int} {i : Nat} (h : Hd) (_hi : b < 0 → i < l.length) : ((wordM l b h i).2.2 < 0 → (wordM l b h i).2.1 < l.length) ∧ mm l (wordM l b h i).2.2 (wordM l b h i).2.1 ≤ mm l b i - 1 := by
  by_cases hb : 0 ≤ b
  · rw [wordM_bad hb]; dsimp only; rw [mm_bad hb]; exact ⟨fun h => absurd h (by omega), by omega⟩
  · unfold wordM
    rw [if_neg hb]
    by_cases hm : kindAt l i = 1
    · rw [if_pos hm]
      have := kindAt_next W (i := i) (by omega)
      dsimp only
      rw [mm_good (by omega), mm_good (by omega)]
      exact ⟨fun _ => this, by omega⟩
    · rw [if_neg hm]; dsimp only; rw [mm_bad (b := (i : Int)) (by omega)]; exact ⟨fun h => absurd h (by omega), by omega⟩
theorem on_T {b : Int} {i : Nat} (hb : b < 0) (h : i + 1 < l.length) : (b < 0 → i + 1 < l.length) ∧ mm l b (i + 1) ≤ mm l b i - 1 := by
  rw [mm_good hb, mm_good hb]; exact ⟨fun _ => h, by omega⟩
theorem Tm.ret {b b' : Int} {i i' d : Nat} {k : Fo} (h : b' < 0 → i' < l.length) (hm : mm l b' i' ≤ mm l b i - d) : Tm l b i d (some (k, i', b')) := ⟨_, rfl, h, hm⟩
theorem Tm.of {b : Int} {i d : Nat} {r : Fo × Nat × Int} (h : r.2.2 < 0 → r.2.1 < l.length) (hm : mm l r.2.2 r.2.1 ≤ mm l b i - d) : Tm l b i d (some r) := ⟨r, rfl, h, hm⟩
theorem Tm.pre {b : Int} {i d : Nat} {k : Fo} {r : Fo × Nat × Int} (h : r.2.2 < 0 → r.2.1 < l.length) (hm : mm l r.2.2 r.2.1 ≤ mm l b i - d) : Tm l b i d (Res.pre k (some r)) := ⟨(k.app r.1, r.2), rfl, h, hm⟩
def rT : TT → Nat
  | .kind => 1
  | _ => 2
def sT : TT → Nat
  | .kind => 1
  | _ => 0
theorem ty_T (W : Wf l) : ∀ (f : Nat) (t : TT) (b : Int) (i : Nat), (b < 0 → i < l.length) → 20 * mm l b i + rT t ≤ f → Tm l b i (sT t) (tyM l f t b i) := by
  intro f
  induction f with
  | zero => intro t b i _ h; cases t <;> simp [rT] at h
  | succ f ih =>
    intro t b i hi hf
    by_cases hb : 0 ≤ b
    · have hb' : ¬ b < 0 := by omega
      have h0 : mm l b i = 0 := mm_bad hb
      cases t with
      | kind => rw [tyM, if_pos hb]; exact Tm.ret hi (by rw [h0]; omega)
      | recL first => rw [tyM, if_neg (fun hh => hb' hh.1)]; exact Tm.ret hi (by rw [h0]; omega)
      | fnL first => rw [tyM, if_neg (fun hh => hb' hh.1)]; exact Tm.ret hi (by rw [h0]; omega)
    · have hg : b < 0 := by omega
      have hp := mm_pos hg hi
      cases t with
      | kind =>
        simp only [rT] at hf
        rw [tyM, if_neg hb]
        split
        · rename_i hm; have := on_T (l := l) (i := i) hg (isM_next W hm); exact Tm.ret this.1 this.2
        · split
          · rename_i hm; have := on_T (l := l) (i := i) hg (isM_next W hm); exact Tm.ret this.1 this.2
          · split
            · rename_i hm; have := on_T (l := l) (i := i) hg (isM_next W hm); exact Tm.ret this.1 this.2
            · split
              · rename_i hm
                obtain ⟨h1, m1⟩ := on_T (l := l) (i := i) hg (isM_next W hm)
                obtain ⟨x, ex, hx, mx⟩ := ih (.recL true) b (i + 1) h1 (by simp only [rT]; omega)
                rw [ex, Option.bind_some]
                dsimp only
                obtain ⟨h2, m2⟩ := want_T W sShut hx
                simp only [sT] at mx ⊢
                exact Tm.ret h2 (by omega)
              · obtain ⟨h1, m1⟩ := want_T W kFn hi
                obtain ⟨h2, m2⟩ := want_T W sParO h1
                obtain ⟨x, ex, hx, mx⟩ := ih (.fnL true) _ _ h2 (by simp only [rT]; omega)
                dsimp only
                rw [ex, Option.bind_some]
                obtain ⟨h3, m3⟩ := want_T W sParS hx
                obtain ⟨h4, m4⟩ := want_T W sCol h3
                simp only [sT] at mx ⊢
                obtain ⟨t, et, ht, mt⟩ := ih .kind _ _ h4 (by simp only [rT]; omega)
                rw [et, Option.bind_some]
                simp only [sT] at mt
                exact Tm.ret ht (by omega)
      | recL first =>
        simp only [rT] at hf
        rw [tyM]
        split
        · obtain ⟨h1, m1⟩ := word_T W ⟨33, i, 0, e0, 0⟩ hi
          obtain ⟨h2, m2⟩ := want_T W sCol h1
          dsimp only
          obtain ⟨t, et, ht, mt⟩ := ih .kind _ _ h2 (by simp only [rT]; omega)
          rw [et, Option.bind_some]
          simp only [sT] at mt ⊢
          split
          · exact Tm.ret ht (by omega)
          · obtain ⟨h3, m3⟩ := want_T W sCom ht
            obtain ⟨x, ex, hx, mx⟩ := ih (.recL false) _ _ h3 (by simp only [rT]; omega)
            rw [ex]
            simp only [sT] at mx
            exact Tm.pre hx (by omega)
        · exact Tm.ret hi (by simp only [sT]; omega)
      | fnL first =>
        simp only [rT] at hf
        rw [tyM]
        split
        · obtain ⟨t, et, ht, mt⟩ := ih .kind _ _ hi (by simp only [rT]; omega)
          rw [et, Option.bind_some]
          simp only [sT] at mt ⊢
          split
          · exact Tm.ret ht (by omega)
          · obtain ⟨h3, m3⟩ := want_T W sCom ht
            obtain ⟨x, ex, hx, mx⟩ := ih (.fnL false) _ _ h3 (by simp only [rT]; omega)
            rw [ex]
            simp only [sT] at mx
            exact Tm.pre hx (by omega)
        · exact Tm.ret hi (by simp only [sT]; omega)
theorem typed_T (W : Wf l) {f : Nat} {b : Int} {i : Nat} (hi : b < 0 → i < l.length) (hf : 20 * mm l b i + 1 ≤ f) : Tm l b i 0 (typedM l f b i) := by
  unfold typedM
  by_cases hc : 0 ≤ b ∨ ¬ isM l i sCol = true
  · rw [if_pos hc]; exact Tm.ret hi (by omega)
  · rw [if_neg hc]
    have hg : b < 0 := by
      by_cases h : 0 ≤ b
      · exact absurd (.inl h) hc
      · omega
    have hm : isM l i sCol = true := by
      cases h : isM l i sCol with
      | true => rfl
      | false => exact absurd (.inr (by rw [h]; simp)) hc
    obtain ⟨h1, m1⟩ := on_T (l := l) (i := i) hg (isM_next W hm)
    obtain ⟨x, ex, hx, mx⟩ := ty_T W f .kind b (i + 1) h1 (by simp only [rT]; omega)
    rw [ex]
    simp only [sT] at mx
    exact Tm.of hx (by omega)
theorem par_T (W : Wf l) : ∀ (f : Nat) (first : Bool) (b : Int) (i : Nat), (b < 0 → i < l.length) → 20 * mm l b i + 2 ≤ f → Tm l b i 0 (parL l f first b i) := by
  intro f
  induction f with
  | zero => intro first b i _ h; omega
  | succ f ih =>
    intro first b i hi hf
    rw [parL]
    split
    · rename_i hc
      have hp := mm_pos hc.1 hi
      obtain ⟨h1, m1⟩ := word_T W ⟨5, i, 0, e0, 0⟩ hi
      dsimp only
      obtain ⟨t, et, ht, mt⟩ := typed_T W (f := f) h1 (by omega)
      rw [et, Option.bind_some]
      split
      · exact Tm.ret ht (by omega)
      · obtain ⟨h3, m3⟩ := want_T W sCom ht
        obtain ⟨x, ex, hx, mx⟩ := ih false _ _ h3 (by omega)
        rw [ex]
        exact Tm.pre hx (by omega)
    · exact Tm.ret hi (by omega)
theorem params_T (W : Wf l) {f : Nat} {b : Int} {i : Nat} (hi : b < 0 → i < l.length) (hf : 20 * mm l b i + 2 ≤ f) : Tm l b i 1 (paramsM l f b i) := by
  unfold paramsM
  obtain ⟨h1, m1⟩ := want_T W sParO hi
  dsimp only
  obtain ⟨x, ex, hx, mx⟩ := par_T W f true _ _ h1 (by omega)
  rw [ex, Option.bind_some]
  obtain ⟨h2, m2⟩ := want_T W sParS hx
  exact Tm.ret h2 (by omega)
def rX : XT → Nat
  | .lambda => 9
  | .block => 8
  | .stmts => 7
  | .stmt => 6
  | .expr => 5
  | .sum => 4
  | .sumL _ => 1
  | .term => 3
  | .termL _ => 1
  | .post => 2
  | .postL _ => 1
  | .args _ => 6
  | .atom => 1
  | .entries _ => 2
def sX : XT → Nat
  | .lambda | .block | .stmt | .expr | .sum | .term | .post | .atom => 1
  | _ => 0
theorem ex_T (W : Wf l) : ∀ (f : Nat) (t : XT) (b : Int) (i : Nat), (b < 0 → i < l.length) → (t = .stmt → b < 0) → 20 * mm l b i + rX t ≤ f → Tm l b i (sX t) (exM l f t b i) := by
  intro f
  induction f with
  | zero => intro t b i _ _ h; cases t <;> simp [rX] at h
  | succ f ih =>
    intro t b i hi hst hf
    cases t with
    | lambda =>
      simp only [rX] at hf
      rw [exM]
      obtain ⟨p, e1, h1, m1⟩ := params_T W (f := f) hi (by omega)
      rw [e1, Option.bind_some]
      obtain ⟨t, e2, h2, m2⟩ := typed_T W (f := f) h1 (by omega)
      rw [e2, Option.bind_some]
      obtain ⟨k, e3, h3, m3⟩ := ih .block _ _ h2 (fun h => by cases h) (by simp only [rX]; omega)
      rw [e3, Option.bind_some]
      simp only [sX] at m3 ⊢
      exact Tm.ret h3 (by omega)
    | block =>
      simp only [rX] at hf
      rw [exM]
      obtain ⟨h1, m1⟩ := want_T W sOpen hi
      dsimp only
      obtain ⟨x, e2, h2, m2⟩ := ih .stmts _ _ h1 (fun h => by cases h) (by simp only [rX]; omega)
      rw [e2, Option.bind_some]
      obtain ⟨h3, m3⟩ := want_T W sShut h2
      simp only [sX] at m2 ⊢
      exact Tm.ret h3 (by omega)
    | stmts =>
      simp only [rX] at hf
      rw [exM]
      split
      · rename_i hc
        have hp := mm_pos hc.1 hi
        obtain ⟨x, e2, h2, m2⟩ := ih .stmt _ _ hi (fun _ => hc.1) (by simp only [rX]; omega)
        rw [e2, Option.bind_some]
        simp only [sX] at m2
        obtain ⟨y, e3, h3, m3⟩ := ih .stmts _ _ h2 (fun h => by cases h) (by simp only [rX]; omega)
        rw [e3]
        simp only [sX] at m3 ⊢
        exact Tm.pre h3 (by omega)
      · exact Tm.ret hi (by simp only [sX]; omega)
    | stmt =>
      have hg := hst rfl
      have hp := mm_pos hg hi
      simp only [rX] at hf
      rw [exM]
      split
      · rename_i hm
        obtain ⟨h1, m1⟩ := on_T (l := l) (i := i) hg (isM_next W hm)
        obtain ⟨c, e2, h2, m2⟩ := ih .expr _ _ h1 (fun h => by cases h) (by simp only [rX]; omega)
        rw [e2, Option.bind_some]
        simp only [sX] at m2
        obtain ⟨k, e3, h3, m3⟩ := ih .block _ _ h2 (fun h => by cases h) (by simp only [rX]; omega)
        rw [e3, Option.bind_some]
        simp only [sX] at m3 ⊢
        split
        · rename_i hc
          obtain ⟨h4, m4⟩ := on_T (l := l) (i := k.2.1) hc.1 (isM_next W hc.2)
          obtain ⟨o, e5, h5, m5⟩ := ih .block _ _ h4 (fun h => by cases h) (by simp only [rX]; omega)
          rw [e5, Option.bind_some]
          simp only [sX] at m5
          exact Tm.ret h5 (by omega)
        · exact Tm.ret h3 (by omega)
      · split
        · rename_i hm
          obtain ⟨h1, m1⟩ := on_T (l := l) (i := i) hg (isM_next W hm)
          obtain ⟨c, e2, h2, m2⟩ := ih .expr _ _ h1 (fun h => by cases h) (by simp only [rX]; omega)
          rw [e2, Option.bind_some]
          simp only [sX] at m2
          obtain ⟨k, e3, h3, m3⟩ := ih .block _ _ h2 (fun h => by cases h) (by simp only [rX]; omega)
          rw [e3, Option.bind_some]
          simp only [sX] at m3 ⊢
          exact Tm.ret h3 (by omega)
        · split
          · rename_i hm
            obtain ⟨h1, m1⟩ := on_T (l := l) (i := i) hg (isM_next W hm)
            obtain ⟨h2, m2⟩ := word_T W ⟨7, i, 0, e0, 0⟩ h1
            dsimp only
            obtain ⟨t, e3, h3, m3⟩ := typed_T W (f := f) h2 (by omega)
            rw [e3, Option.bind_some]
            obtain ⟨h4, m4⟩ := want_T W sEq h3
            obtain ⟨v, e5, h5, m5⟩ := ih .expr _ _ h4 (fun h => by cases h) (by simp only [rX]; omega)
            rw [e5, Option.bind_some]
            obtain ⟨h6, m6⟩ := want_T W sSem h5
            simp only [sX] at m5 ⊢
            exact Tm.ret h6 (by omega)
          · dsimp only
            obtain ⟨x, hx, hx1, hx2⟩ : ∃ x : Hd × Nat × Int, (if isM l i kPrint = true then ((⟨11, i, 0, e0, 0⟩ : Hd), i + 1, b) else if isM l i kReturn = true then (⟨12, i, 0, e0, 0⟩, i + 1, b) else if kindAt l i = 1 ∧ isM l (i + 1) sEq = true then ((wordM l b ⟨8, i, 0, e0, 0⟩ i).1, (wordM l b ⟨8, i, 0, e0, 0⟩ i).2.1 + 1, (wordM l b ⟨8, i, 0, e0, 0⟩ i).2.2) else (⟨13, i, 0, e0, 0⟩, i, b)) = x ∧ (x.2.2 < 0 → x.2.1 < l.length) ∧ mm l x.2.2 x.2.1 ≤ mm l b i := by
              split
              · rename_i hm
                obtain ⟨h1, m1⟩ := on_T (l := l) (i := i) hg (isM_next W hm)
                exact ⟨_, rfl, h1, by dsimp only; omega⟩
              · split
                · rename_i hm
                  obtain ⟨h1, m1⟩ := on_T (l := l) (i := i) hg (isM_next W hm)
                  exact ⟨_, rfl, h1, by dsimp only; omega⟩
                · split
                  · rename_i hm
                    have hw : wordM l b ⟨8, i, 0, e0, 0⟩ i = (⟨8, i, 0, textAt l i, i⟩, i + 1, b) := by unfold wordM; rw [if_neg (by omega), if_pos hm.1]
                    rw [hw]
                    have h2 := isM_next W hm.2
                    refine ⟨_, rfl, fun _ => h2, ?_⟩
                    dsimp only
                    rw [mm_good hg, mm_good hg]
                    omega
                  · exact ⟨_, rfl, hi, Nat.le_refl _⟩
            rw [hx]
            obtain ⟨v, e5, h5, m5⟩ := ih .expr _ _ hx1 (fun h => by cases h) (by simp only [rX]; omega)
            rw [e5, Option.bind_some]
            obtain ⟨h6, m6⟩ := want_T W sSem h5
            simp only [sX] at m5 ⊢
            exact Tm.ret h6 (by omega)
    | expr =>
      simp only [rX] at hf
      rw [exM]
      obtain ⟨a, e1, h1, m1⟩ := ih .sum _ _ hi (fun h => by cases h) (by simp only [rX]; omega)
      rw [e1, Option.bind_some]
      simp only [sX] at m1 ⊢
      split
      · exact Tm.of h1 m1
      · rename_i hc
        have hg : a.2.2 < 0 := by
          by_cases h : 0 ≤ a.2.2
          · exact absurd (.inl h) hc
          · omega
        have hn : a.2.1 + 1 < l.length := by
          cases h1 : isM l a.2.1 sLess with
          | true => exact isM_next W h1
          | false =>
            cases h2 : isM l a.2.1 sEqEq with
            | true => exact isM_next W h2
            | false => exact absurd (.inr ⟨by rw [h1]; simp, by rw [h2]; simp⟩) hc
        obtain ⟨h2, m2⟩ := on_T (l := l) hg hn
        have hp := mm_pos hg h1
        obtain ⟨c, e3, h3, m3⟩ := ih .sum _ _ h2 (fun h => by cases h) (by simp only [rX]; omega)
        rw [e3, Option.bind_some]
        simp only [sX] at m3
        exact Tm.ret h3 (by omega)
    | sum =>
      simp only [rX] at hf
      rw [exM]
      obtain ⟨a, e1, h1, m1⟩ := ih .term _ _ hi (fun h => by cases h) (by simp only [rX]; omega)
      rw [e1, Option.bind_some]
      simp only [sX] at m1 ⊢
      obtain ⟨c, e3, h3, m3⟩ := ih (.sumL a.1) _ _ h1 (fun h => by cases h) (by simp only [rX]; omega)
      rw [e3]
      simp only [sX] at m3
      exact Tm.of h3 (by omega)
    | term =>
      simp only [rX] at hf
      rw [exM]
      obtain ⟨a, e1, h1, m1⟩ := ih .post _ _ hi (fun h => by cases h) (by simp only [rX]; omega)
      rw [e1, Option.bind_some]
      simp only [sX] at m1 ⊢
      obtain ⟨c, e3, h3, m3⟩ := ih (.termL a.1) _ _ h1 (fun h => by cases h) (by simp only [rX]; omega)
      rw [e3]
      simp only [sX] at m3
      exact Tm.of h3 (by omega)
    | post =>
      simp only [rX] at hf
      rw [exM]
      obtain ⟨a, e1, h1, m1⟩ := ih .atom _ _ hi (fun h => by cases h) (by simp only [rX]; omega)
      rw [e1, Option.bind_some]
      simp only [sX] at m1 ⊢
      obtain ⟨c, e3, h3, m3⟩ := ih (.postL a.1) _ _ h1 (fun h => by cases h) (by simp only [rX]; omega)
      rw [e3]
      simp only [sX] at m3
      exact Tm.of h3 (by omega)
    | sumL a =>
      simp only [rX] at hf
      rw [exM]
      split
      · rename_i hc
        have hp := mm_pos hc.1 hi
        have hn : i + 1 < l.length := by
          rcases hc.2 with h | h <;> exact isM_next W h
        obtain ⟨h1, m1⟩ := on_T (l := l) hc.1 hn
        obtain ⟨c, e2, h2, m2⟩ := ih .term _ _ h1 (fun h => by cases h) (by simp only [rX]; omega)
        rw [e2, Option.bind_some]
        simp only [sX] at m2
        obtain ⟨y, e3, h3, m3⟩ := ih (.sumL _) _ _ h2 (fun h => by cases h) (by simp only [rX]; omega)
        rw [e3]
        simp only [sX] at m3 ⊢
        exact Tm.of h3 (by omega)
      · exact Tm.ret hi (by simp only [sX]; omega)
    | termL a =>
      simp only [rX] at hf
      rw [exM]
      split
      · rename_i hc
        have hp := mm_pos hc.1 hi
        obtain ⟨h1, m1⟩ := on_T (l := l) hc.1 (isM_next W hc.2)
        obtain ⟨c, e2, h2, m2⟩ := ih .post _ _ h1 (fun h => by cases h) (by simp only [rX]; omega)
        rw [e2, Option.bind_some]
        simp only [sX] at m2
        obtain ⟨y, e3, h3, m3⟩ := ih (.termL _) _ _ h2 (fun h => by cases h) (by simp only [rX]; omega)
        rw [e3]
        simp only [sX] at m3 ⊢
        exact Tm.of h3 (by omega)
      · exact Tm.ret hi (by simp only [sX]; omega)
    | postL a =>
      simp only [rX] at hf
      rw [exM]
      split
      · rename_i hc
        have hp := mm_pos hc.1 hi
        have hn : i + 1 < l.length := by
          rcases hc.2 with h | h <;> exact isM_next W h
        obtain ⟨h1, m1⟩ := on_T (l := l) hc.1 hn
        split
        · obtain ⟨h2, m2⟩ := word_T W ⟨19, a.from_, 0, e0, 0⟩ h1
          dsimp only
          obtain ⟨y, e3, h3, m3⟩ := ih (.postL (.one { (wordM l b ⟨19, a.from_, 0, e0, 0⟩ (i + 1)).1 with til := (wordM l b ⟨19, a.from_, 0, e0, 0⟩ (i + 1)).2.1 } a)) _ _ h2 (fun h => by cases h) (by simp only [rX]; omega)
          rw [e3]
          simp only [sX] at m3 ⊢
          exact Tm.of h3 (by omega)
        · obtain ⟨k, e2, h2, m2⟩ := ih (.args true) _ _ h1 (fun h => by cases h) (by simp only [rX]; omega)
          rw [e2, Option.bind_some]
          simp only [sX] at m2
          obtain ⟨h3, m3⟩ := want_T W sParS h2
          dsimp only
          obtain ⟨y, e4, h4, m4⟩ := ih (.postL (.one ⟨20, a.from_, (wantM l k.2.2 k.2.1 sParS).1, e0, 0⟩ (a.app k.1))) _ _ h3 (fun h => by cases h) (by simp only [rX]; omega)
          rw [e4]
          simp only [sX] at m4 ⊢
          exact Tm.of h4 (by omega)
      · exact Tm.ret hi (by simp only [sX]; omega)
    | args first =>
      simp only [rX] at hf
      rw [exM]
      split
      · rename_i hc
        have hp := mm_pos hc.1 hi
        obtain ⟨t, e2, h2, m2⟩ := ih .expr _ _ hi (fun h => by cases h) (by simp only [rX]; omega)
        rw [e2, Option.bind_some]
        simp only [sX] at m2 ⊢
        split
        · exact Tm.ret h2 (by omega)
        · obtain ⟨h3, m3⟩ := want_T W sCom h2
          obtain ⟨y, e4, h4, m4⟩ := ih (.args false) _ _ h3 (fun h => by cases h) (by simp only [rX]; omega)
          rw [e4]
          simp only [sX] at m4
          exact Tm.pre h4 (by omega)
      · exact Tm.ret hi (by simp only [sX]; omega)
    | atom =>
      simp only [rX] at hf
      rw [exM]
      split
      · rename_i hb; exact Tm.ret hi (by simp only [sX]; rw [mm_bad hb]; omega)
      · rename_i hb
        have hg : b < 0 := by omega
        have hp := mm_pos hg hi
        split
        · rename_i hk; have := on_T (l := l) (i := i) hg (kindAt_next W (by omega)); exact Tm.ret this.1 this.2
        · split
          · rename_i hk; have := on_T (l := l) (i := i) hg (kindAt_next W (by omega)); exact Tm.ret this.1 this.2
          · split
            · rename_i hk; have := on_T (l := l) (i := i) hg (kindAt_next W (by omega)); exact Tm.ret this.1 this.2
            · split
              · rename_i hm; have := on_T (l := l) (i := i) hg (isM_next W hm); exact Tm.ret this.1 this.2
              · split
                · rename_i hm
                  obtain ⟨h1, m1⟩ := on_T (l := l) (i := i) hg (isM_next W hm)
                  obtain ⟨x, e2, h2, m2⟩ := ih .expr _ _ h1 (fun h => by cases h) (by simp only [rX]; omega)
                  rw [e2, Option.bind_some]
                  simp only [sX] at m2 ⊢
                  obtain ⟨h3, m3⟩ := want_T W sParS h2
                  exact Tm.ret h3 (by omega)
                · split
                  · rename_i hm
                    obtain ⟨h1, m1⟩ := on_T (l := l) (i := i) hg (isM_next W hm)
                    obtain ⟨x, e2, h2, m2⟩ := ih (.entries true) _ _ h1 (fun h => by cases h) (by simp only [rX]; omega)
                    rw [e2, Option.bind_some]
                    simp only [sX] at m2 ⊢
                    obtain ⟨h3, m3⟩ := want_T W sShut h2
                    exact Tm.ret h3 (by omega)
                  · obtain ⟨h1, m1⟩ := want_T W kFn hi
                    dsimp only
                    obtain ⟨x, e2, h2, m2⟩ := ih .lambda _ _ h1 (fun h => by cases h) (by simp only [rX]; omega)
                    rw [e2, Option.bind_some]
                    simp only [sX] at m2 ⊢
                    exact Tm.ret h2 (by omega)
    | entries first =>
      simp only [rX] at hf
      rw [exM]
      split
      · rename_i hc
        have hp := mm_pos hc.1 hi
        obtain ⟨h1, m1⟩ := word_T W ⟨27, i, 0, e0, 0⟩ hi
        obtain ⟨h2, m2⟩ := want_T W sCol h1
        dsimp only
        obtain ⟨t, e3, h3, m3⟩ := ih .expr _ _ h2 (fun h => by cases h) (by simp only [rX]; omega)
        rw [e3, Option.bind_some]
        simp only [sX] at m3 ⊢
        split
        · exact Tm.ret h3 (by omega)
        · obtain ⟨h4, m4⟩ := want_T W sCom h3
          obtain ⟨y, e5, h5, m5⟩ := ih (.entries false) _ _ h4 (fun h => by cases h) (by simp only [rX]; omega)
          rw [e5]
          simp only [sX] at m5
          exact Tm.pre h5 (by omega)
      · exact Tm.ret hi (by simp only [sX]; omega)
theorem use_T (W : Wf l) {b : Int} {i : Nat} (hb : b < 0) (hm : i + 1 < l.length) : ((useM l b i).2.2 < 0 → (useM l b i).2.1 < l.length) ∧ mm l (useM l b i).2.2 (useM l b i).2.1 ≤ mm l b i - 1 := by
  obtain ⟨h1, m1⟩ := on_T (l := l) hb hm
  obtain ⟨h2, m2⟩ := word_T W ⟨23, i + 1, 0, e0, 0⟩ h1
  obtain ⟨h3, m3⟩ := want_T W sDot h2
  obtain ⟨h4, m4⟩ := word_T W ⟨2, i, 0, e0, 0⟩ h3
  obtain ⟨h5, m5⟩ := want_T W sSem h4
  unfold useM
  dsimp only
  exact ⟨h5, by omega⟩
theorem def_T (W : Wf l) {f : Nat} {b : Int} {i : Nat} (hb : b < 0) (hi : b < 0 → i < l.length) (hf : 20 * mm l b i ≤ f) : Tm l b i 1 (defM l f b i) := by
  have hp := mm_pos hb hi
  obtain ⟨h1, m1⟩ := want_T W kDef hi
  obtain ⟨h2, m2⟩ := word_T W ⟨3, i, 0, e0, 0⟩ h1
  unfold defM
  dsimp only
  obtain ⟨k, e3, h3, m3⟩ := ex_T W f .lambda _ _ h2 (fun h => by cases h) (by simp only [rX]; omega)
  rw [e3, Option.bind_some]
  simp only [sX] at m3
  exact Tm.ret h3 (by omega)
theorem items_T (W : Wf l) : ∀ (f : Nat) (b : Int) (i : Nat), (b < 0 → i < l.length) → 20 * mm l b i + 1 ≤ f → Tm l b i 0 (itemsM l f b i) := by
  intro f
  induction f with
  | zero => intro b i _ h; omega
  | succ f ih =>
    intro b i hi hf
    rw [itemsM]
    split
    · rename_i hc
      have hp := mm_pos hc.1 hi
      split
      · rename_i hm
        obtain ⟨h1, m1⟩ := use_T W hc.1 (isM_next W hm)
        obtain ⟨x, e2, h2, m2⟩ := ih _ _ h1 (by omega)
        rw [e2]
        exact Tm.pre h2 (by omega)
      · obtain ⟨t, e1, h1, m1⟩ := def_T W (f := f) hc.1 hi (by omega)
        rw [e1, Option.bind_some]
        obtain ⟨x, e2, h2, m2⟩ := ih _ _ h1 (by omega)
        rw [e2]
        exact Tm.pre h2 (by omega)
    · exact Tm.ret hi (by omega)
def fuel : Nat := 100000
theorem items_some (W : Wf l) : ∃ r, itemsM l fuel (-1) 0 = some r ∧ (r.2.2 < 0 → r.2.1 < l.length) := by
  have h1 := W.pos
  have h2 := W.le
  obtain ⟨r, e, h, _⟩ := items_T W fuel (-1) 0 (fun _ => h1) (by rw [mm_good (by omega)]; unfold fuel; omega)
  exact ⟨r, e, h⟩
end Ps
end Go.Proofs.Ytnefnnoleeeedaa
namespace Go.Proofs.Ytnefnnoleeeedaa
namespace Ps
variable {l : List Tok}
def Fo.deep : Fo → Nat
  | .nil => 0
  | .cons _ k r => max (1 + k.deep) r.deep
theorem Fo.deep_one (h : Hd) (k : Fo) : (Fo.one h k).deep = 1 + k.deep := by simp [Fo.one, Fo.deep]
theorem Fo.deep_app : ∀ a b : Fo, (a.app b).deep = max a.deep b.deep
  | .nil, b => by simp [Fo.app, Fo.deep]
  | .cons h k r, b => by rw [Fo.app, Fo.deep, Fo.deep, Fo.deep_app r]; omega
theorem Fo.deep_zero : Fo.zero.deep = 1 := rfl
theorem ty_deep : ∀ (f : Nat) (t : TT) (b : Int) (i : Nat) (r : Fo × Nat × Int), tyM l f t b i = some r → r.1.deep ≤ 2 * f := by
  intro f
  induction f with
  | zero => intro t b i r h; rw [tyM] at h; cases h
  | succ f ih =>
    intro t b i r h
    cases t with
    | kind =>
      rw [tyM] at h
      split at h
      · injection h with h; rw [← h]; simp only [Fo.deep_zero]; omega
      · split at h
        · injection h with h; rw [← h]; simp only [Fo.deep_one, Fo.deep]; omega
        · split at h
          · injection h with h; rw [← h]; simp only [Fo.deep_one, Fo.deep]; omega
          · split at h
            · injection h with h; rw [← h]; simp only [Fo.deep_one, Fo.deep]; omega
            · split at h
              · obtain ⟨x, hx, h⟩ := Option.bind_eq_some_iff.1 h
                have := ih _ _ _ _ hx
                injection h with h; rw [← h]; simp only [Fo.deep_one]; omega
              · obtain ⟨x, hx, h⟩ := Option.bind_eq_some_iff.1 h
                obtain ⟨t, ht, h⟩ := Option.bind_eq_some_iff.1 h
                have := ih _ _ _ _ hx
                have := ih _ _ _ _ ht
                injection h with h; rw [← h]; simp only [Fo.deep_one, Fo.deep_app]; omega
    | recL first =>
      rw [tyM] at h
      split at h
      · obtain ⟨t, ht, h⟩ := Option.bind_eq_some_iff.1 h
        have := ih _ _ _ _ ht
        split at h
        · injection h with h; rw [← h]; simp only [Fo.deep_one]; omega
        · obtain ⟨x, hx, h⟩ := Option.map_eq_some_iff.1 h
          have := ih _ _ _ _ hx
          rw [← h]; simp only [Fo.deep_one, Fo.deep_app]; omega
      · injection h with h; rw [← h]; simp only [Fo.deep]; omega
    | fnL first =>
      rw [tyM] at h
      split at h
      · obtain ⟨t, ht, h⟩ := Option.bind_eq_some_iff.1 h
        have := ih _ _ _ _ ht
        split at h
        · injection h with h; rw [← h]; dsimp only; omega
        · obtain ⟨x, hx, h⟩ := Option.map_eq_some_iff.1 h
          have := ih _ _ _ _ hx
          rw [← h]; simp only [Fo.deep_app]; omega
      · injection h with h; rw [← h]; simp only [Fo.deep]; omega
theorem typed_deep {f : Nat} {b : Int} {i : Nat} {r : Fo × Nat × Int} (h : typedM l f b i = some r) : r.1.deep ≤ 2 * f + 1 := by
  unfold typedM at h
  split at h
  · injection h with h; rw [← h]; simp only [Fo.deep_zero]; omega
  · have := ty_deep _ _ _ _ _ h; omega
theorem par_deep : ∀ (f : Nat) (first : Bool) (b : Int) (i : Nat) (r : Fo × Nat × Int), parL l f first b i = some r → r.1.deep ≤ 2 * f := by
  intro f
  induction f with
  | zero => intro first b i r h; rw [parL] at h; cases h
  | succ f ih =>
    intro first b i r h
    rw [parL] at h
    split at h
    · obtain ⟨t, ht, h⟩ := Option.bind_eq_some_iff.1 h
      have := typed_deep ht
      split at h
      · injection h with h; rw [← h]; simp only [Fo.deep_one]; omega
      · obtain ⟨x, hx, h⟩ := Option.map_eq_some_iff.1 h
        have := ih _ _ _ _ hx
        rw [← h]; simp only [Fo.deep_one, Fo.deep_app]; omega
    · injection h with h; rw [← h]; simp only [Fo.deep]; omega
theorem params_deep {f : Nat} {b : Int} {i : Nat} {r : Fo × Nat × Int} (h : paramsM l f b i = some r) : r.1.deep ≤ 2 * f + 1 := by
  unfold paramsM at h
  obtain ⟨x, hx, h⟩ := Option.bind_eq_some_iff.1 h
  have := par_deep _ _ _ _ _ hx
  injection h with h; rw [← h]; simp only [Fo.deep_one]; omega
def dB : Nat → Nat
  | 0 => 0
  | f + 1 => dB f + f + 2
theorem dB_ge : ∀ f, 2 * f ≤ dB f
  | 0 => Nat.le_refl _
  | f + 1 => by have := dB_ge f; rw [dB]; omega
def dA (f : Nat) : XT → Nat
  | .sumL a | .termL a | .postL a => max a.deep (dB f) + f
  | _ => dB f
theorem ex_deep : ∀ (f : Nat) (t : XT) (b : Int) (i : Nat) (r : Fo × Nat × Int), exM l f t b i = some r → r.1.deep ≤ dA f t := by
  intro f
  induction f with
  | zero => intro t b i r h; rw [exM] at h; cases h
  | succ f ih =>
    intro t b i r h
    have hg := dB_ge f
    cases t with
    | lambda =>
      rw [exM] at h
      obtain ⟨p, h1, h⟩ := Option.bind_eq_some_iff.1 h
      obtain ⟨t, h2, h⟩ := Option.bind_eq_some_iff.1 h
      obtain ⟨k, h3, h⟩ := Option.bind_eq_some_iff.1 h
      have := params_deep h1
      have := typed_deep h2
      have := ih _ _ _ _ h3
      injection h with h; rw [← h]; simp only [Fo.deep_app, dA, dB] at *; omega
    | block =>
      rw [exM] at h
      obtain ⟨x, h1, h⟩ := Option.bind_eq_some_iff.1 h
      have := ih _ _ _ _ h1
      injection h with h; rw [← h]; simp only [Fo.deep_one, dA, dB] at *; omega
    | stmts =>
      rw [exM] at h
      split at h
      · obtain ⟨x, h1, h⟩ := Option.bind_eq_some_iff.1 h
        obtain ⟨y, h2, h⟩ := Option.map_eq_some_iff.1 h
        have := ih _ _ _ _ h1
        have := ih _ _ _ _ h2
        rw [← h]; simp only [Fo.deep_app, dA, dB] at *; omega
      · injection h with h; rw [← h]; simp only [Fo.deep, dA, dB]; omega
    | stmt =>
      rw [exM] at h
      split at h
      · obtain ⟨c, h1, h⟩ := Option.bind_eq_some_iff.1 h
        obtain ⟨k, h2, h⟩ := Option.bind_eq_some_iff.1 h
        have := ih _ _ _ _ h1
        have := ih _ _ _ _ h2
        split at h
        · obtain ⟨o, h3, h⟩ := Option.bind_eq_some_iff.1 h
          have := ih _ _ _ _ h3
          injection h with h; rw [← h]; simp only [Fo.deep_one, Fo.deep_app, dA, dB] at *; omega
        · injection h with h; rw [← h]; simp only [Fo.deep_one, Fo.deep_app, Fo.deep_zero, dA, dB] at *; omega
      · split at h
        · obtain ⟨c, h1, h⟩ := Option.bind_eq_some_iff.1 h
          obtain ⟨k, h2, h⟩ := Option.bind_eq_some_iff.1 h
          have := ih _ _ _ _ h1
          have := ih _ _ _ _ h2
          injection h with h; rw [← h]; simp only [Fo.deep_one, Fo.deep_app, dA, dB] at *; omega
        · split at h
          · obtain ⟨t, h1, h⟩ := Option.bind_eq_some_iff.1 h
            obtain ⟨v, h2, h⟩ := Option.bind_eq_some_iff.1 h
            have := typed_deep h1
            have := ih _ _ _ _ h2
            injection h with h; rw [← h]; simp only [Fo.deep_one, Fo.deep_app, dA, dB] at *; omega
          · obtain ⟨v, h2, h⟩ := Option.bind_eq_some_iff.1 h
            have := ih _ _ _ _ h2
            injection h with h; rw [← h]; simp only [Fo.deep_one, dA, dB] at *; omega
    | expr =>
      rw [exM] at h
      obtain ⟨a, h1, h⟩ := Option.bind_eq_some_iff.1 h
      have := ih _ _ _ _ h1
      split at h
      · injection h with h; rw [← h]; simp only [dA, dB] at *; omega
      · obtain ⟨c, h2, h⟩ := Option.bind_eq_some_iff.1 h
        have := ih _ _ _ _ h2
        injection h with h; rw [← h]; simp only [Fo.deep_one, Fo.deep_app, dA, dB] at *; omega
    | sum =>
      rw [exM] at h
      obtain ⟨a, h1, h⟩ := Option.bind_eq_some_iff.1 h
      have := ih _ _ _ _ h1
      have := ih _ _ _ _ h
      simp only [dA, dB] at *; omega
    | term =>
      rw [exM] at h
      obtain ⟨a, h1, h⟩ := Option.bind_eq_some_iff.1 h
      have := ih _ _ _ _ h1
      have := ih _ _ _ _ h
      simp only [dA, dB] at *; omega
    | post =>
      rw [exM] at h
      obtain ⟨a, h1, h⟩ := Option.bind_eq_some_iff.1 h
      have := ih _ _ _ _ h1
      have := ih _ _ _ _ h
      simp only [dA, dB] at *; omega
    | sumL a =>
      rw [exM] at h
      split at h
      · obtain ⟨c, h1, h⟩ := Option.bind_eq_some_iff.1 h
        have := ih _ _ _ _ h1
        have := ih _ _ _ _ h
        simp only [Fo.deep_one, Fo.deep_app, dA, dB] at *; omega
      · injection h with h; rw [← h]; simp only [dA, dB]; omega
    | termL a =>
      rw [exM] at h
      split at h
      · obtain ⟨c, h1, h⟩ := Option.bind_eq_some_iff.1 h
        have := ih _ _ _ _ h1
        have := ih _ _ _ _ h
        simp only [Fo.deep_one, Fo.deep_app, dA, dB] at *; omega
      · injection h with h; rw [← h]; simp only [dA, dB]; omega
    | postL a =>
      rw [exM] at h
      split at h
      · split at h
        · have := ih _ _ _ _ h
          simp only [Fo.deep_one, dA, dB] at *; omega
        · obtain ⟨k, h1, h⟩ := Option.bind_eq_some_iff.1 h
          have := ih _ _ _ _ h1
          have := ih _ _ _ _ h
          simp only [Fo.deep_one, Fo.deep_app, dA, dB] at *; omega
      · injection h with h; rw [← h]; simp only [dA, dB]; omega
    | args first =>
      rw [exM] at h
      split at h
      · obtain ⟨t, h1, h⟩ := Option.bind_eq_some_iff.1 h
        have := ih _ _ _ _ h1
        split at h
        · injection h with h; rw [← h]; simp only [dA, dB] at *; omega
        · obtain ⟨y, h2, h⟩ := Option.map_eq_some_iff.1 h
          have := ih _ _ _ _ h2
          rw [← h]; simp only [Fo.deep_app, dA, dB] at *; omega
      · injection h with h; rw [← h]; simp only [Fo.deep, dA, dB]; omega
    | atom =>
      rw [exM] at h
      split at h
      · injection h with h; rw [← h]; simp only [Fo.deep_zero, dA, dB]; omega
      · split at h
        · injection h with h; rw [← h]; simp only [Fo.deep_one, Fo.deep, dA, dB]; omega
        · split at h
          · injection h with h; rw [← h]; simp only [Fo.deep_one, Fo.deep, dA, dB]; omega
          · split at h
            · injection h with h; rw [← h]; simp only [Fo.deep_one, Fo.deep, dA, dB]; omega
            · split at h
              · injection h with h; rw [← h]; simp only [Fo.deep_one, Fo.deep, dA, dB]; omega
              · split at h
                · obtain ⟨x, h1, h⟩ := Option.bind_eq_some_iff.1 h
                  have := ih _ _ _ _ h1
                  injection h with h; rw [← h]; simp only [Fo.deep_one, dA, dB] at *; omega
                · split at h
                  · obtain ⟨x, h1, h⟩ := Option.bind_eq_some_iff.1 h
                    have := ih _ _ _ _ h1
                    injection h with h; rw [← h]; simp only [Fo.deep_one, dA, dB] at *; omega
                  · obtain ⟨x, h1, h⟩ := Option.bind_eq_some_iff.1 h
                    have := ih _ _ _ _ h1
                    injection h with h; rw [← h]; simp only [Fo.deep_one, dA, dB] at *; omega
    | entries first =>
      rw [exM] at h
      split at h
      · obtain ⟨t, h1, h⟩ := Option.bind_eq_some_iff.1 h
        have := ih _ _ _ _ h1
        split at h
        · injection h with h; rw [← h]; simp only [Fo.deep_one, dA, dB] at *; omega
        · obtain ⟨y, h2, h⟩ := Option.map_eq_some_iff.1 h
          have := ih _ _ _ _ h2
          rw [← h]; simp only [Fo.deep_one, Fo.deep_app, dA, dB] at *; omega
      · injection h with h; rw [← h]; simp only [Fo.deep, dA, dB]; omega
theorem dB_mono {f g : Nat} (h : f ≤ g) : dB f ≤ dB g := by
  induction g with
  | zero => rw [Nat.le_zero.1 h]; exact Nat.le_refl _
  | succ g ih =>
    by_cases e : f = g + 1
    · rw [e]; exact Nat.le_refl _
    · have := ih (by omega); rw [dB]; omega
theorem items_deep : ∀ (f g : Nat) (b : Int) (i : Nat) (r : Fo × Nat × Int), f ≤ g → itemsM l f b i = some r → r.1.deep ≤ dB g + 2 := by
  intro f
  induction f with
  | zero => intro g b i r _ h; rw [itemsM] at h; cases h
  | succ f ih =>
    intro g b i r hf h
    rw [itemsM] at h
    split at h
    · split at h
      · obtain ⟨x, h1, h⟩ := Option.map_eq_some_iff.1 h
        have := ih g _ _ _ (by omega) h1
        have hu : (useM l b i).1.deep = 2 := by unfold useM; simp only [Fo.deep_one, Fo.deep]
        rw [← h]; simp only [Fo.deep_app, hu]; omega
      · obtain ⟨t, h1, h⟩ := Option.bind_eq_some_iff.1 h
        obtain ⟨x, h2, h⟩ := Option.map_eq_some_iff.1 h
        have := ih g _ _ _ (by omega) h2
        have hd : t.1.deep ≤ dB f + 1 := by
          unfold defM at h1
          obtain ⟨k, h3, h1⟩ := Option.bind_eq_some_iff.1 h1
          have := ex_deep _ _ _ _ _ h3
          injection h1 with h1; rw [← h1]; simp only [Fo.deep_one, dA] at *; omega
        have := dB_mono (f := f) (g := g) (by omega)
        rw [← h]; simp only [Fo.deep_app]; omega
    · injection h with h; rw [← h]; simp only [Fo.deep]; omega
theorem dB_le : ∀ f, f ≤ 1000000 → dB f ≤ f * 1000003
  | 0, _ => Nat.le_refl _
  | f + 1, h => by have := dB_le f (by omega); rw [dB, Nat.add_mul]; omega
theorem items_deep' {r : Fo × Nat × Int} (h : itemsM l fuel (-1) 0 = some r) : r.1.deep ≤ 900000000000 := by
  have h1 := items_deep fuel fuel (-1) 0 r (Nat.le_refl _) h
  have h2 := dB_le fuel (by unfold fuel; omega)
  unfold fuel at *
  omega
end Ps
end Go.Proofs.Ytnefnnoleeeedaa
namespace Go.Proofs.Ytnefnnoleeeedaa
namespace Ps
variable {l : List Tok}
def Fo.wide : Fo → Nat
  | .nil => 0
  | .cons _ k r => max (max k.len k.wide) r.wide
theorem Fo.wide_one (h : Hd) (k : Fo) : (Fo.one h k).wide = max k.len k.wide := by simp [Fo.one, Fo.wide]
theorem Fo.wide_app : ∀ a b : Fo, (a.app b).wide = max a.wide b.wide
  | .nil, b => by simp [Fo.app, Fo.wide]
  | .cons h k r, b => by rw [Fo.app, Fo.wide, Fo.wide, Fo.wide_app r]; omega
theorem Fo.wide_zero : Fo.zero.wide = 0 := rfl
theorem Fo.len_zero : Fo.zero.len = 1 := rfl
theorem Fo.len_one (h : Hd) (k : Fo) : (Fo.one h k).len = 1 := rfl
def lT (f : Nat) : TT → Nat
  | .kind => 1
  | _ => f
def wL (f : Nat) : XT → Nat
  | .lambda => 3
  | .stmts | .args _ | .entries _ => f
  | .sumL a | .termL a | .postL a => max a.len 1
  | _ => 1
def wW (f : Nat) : XT → Nat
  | .sumL a | .termL a | .postL a => max (max a.wide (a.len + f)) (f + 3)
  | _ => f + 3
theorem ty_wide : ∀ (f : Nat) (t : TT) (b : Int) (i : Nat) (r : Fo × Nat × Int), tyM l f t b i = some r → (r.1.len ≤ lT f t ∧ r.1.wide ≤ f + 3) := by
  intro f
  induction f with
  | zero => intro t b i r h; rw [tyM] at h; cases h
  | succ f ih =>
    intro t b i r h
    cases t with
    | kind =>
      rw [tyM] at h
      split at h
      · injection h with h; rw [← h]; simp only [Fo.wide_zero, Fo.len_zero, lT] at *; omega
      · split at h
        · injection h with h; rw [← h]; simp only [Fo.wide_one, Fo.len_one, Fo.wide, Fo.len, lT] at *; omega
        · split at h
          · injection h with h; rw [← h]; simp only [Fo.wide_one, Fo.len_one, Fo.wide, Fo.len, lT] at *; omega
          · split at h
            · injection h with h; rw [← h]; simp only [Fo.wide_one, Fo.len_one, Fo.wide, Fo.len, lT] at *; omega
            · split at h
              · obtain ⟨x, hx, h⟩ := Option.bind_eq_some_iff.1 h
                have := ih _ _ _ _ hx
                injection h with h; rw [← h]; simp only [Fo.wide_one, Fo.len_one, lT] at *; omega
              · obtain ⟨x, hx, h⟩ := Option.bind_eq_some_iff.1 h
                obtain ⟨t, ht, h⟩ := Option.bind_eq_some_iff.1 h
                have := ih _ _ _ _ hx
                have := ih _ _ _ _ ht
                injection h with h; rw [← h]; simp only [Fo.wide_one, Fo.wide_app, Fo.len_app, Fo.len_one, lT] at *; omega
    | recL first =>
      rw [tyM] at h
      split at h
      · obtain ⟨t, ht, h⟩ := Option.bind_eq_some_iff.1 h
        have := ih _ _ _ _ ht
        split at h
        · injection h with h; rw [← h]; simp only [Fo.wide_one, Fo.len_one, lT] at *; omega
        · obtain ⟨x, hx, h⟩ := Option.map_eq_some_iff.1 h
          have := ih _ _ _ _ hx
          rw [← h]; simp only [Fo.wide_one, Fo.wide_app, Fo.len_app, Fo.len_one, lT] at *; omega
      · injection h with h; rw [← h]; simp only [Fo.wide, Fo.len, lT] at *; omega
    | fnL first =>
      rw [tyM] at h
      split at h
      · obtain ⟨t, ht, h⟩ := Option.bind_eq_some_iff.1 h
        have := ih _ _ _ _ ht
        split at h
        · injection h with h; rw [← h]; simp only [lT] at *; omega
        · obtain ⟨x, hx, h⟩ := Option.map_eq_some_iff.1 h
          have := ih _ _ _ _ hx
          rw [← h]; simp only [Fo.wide_app, Fo.len_app, lT] at *; omega
      · injection h with h; rw [← h]; simp only [Fo.wide, Fo.len, lT] at *; omega
theorem typed_wide {f : Nat} {b : Int} {i : Nat} {r : Fo × Nat × Int} (h : typedM l f b i = some r) : r.1.len ≤ 1 ∧ r.1.wide ≤ f + 3 := by
  unfold typedM at h
  split at h
  · injection h with h; rw [← h]; simp only [Fo.wide_zero, Fo.len_zero] at *; omega
  · have := ty_wide _ _ _ _ _ h; simp only [lT] at this; omega
theorem par_wide : ∀ (f : Nat) (first : Bool) (b : Int) (i : Nat) (r : Fo × Nat × Int), parL l f first b i = some r → (r.1.len ≤ f ∧ r.1.wide ≤ f + 3) := by
  intro f
  induction f with
  | zero => intro first b i r h; rw [parL] at h; cases h
  | succ f ih =>
    intro first b i r h
    rw [parL] at h
    split at h
    · obtain ⟨t, ht, h⟩ := Option.bind_eq_some_iff.1 h
      have := typed_wide ht
      split at h
      · injection h with h; rw [← h]; simp only [Fo.wide_one, Fo.len_one] at *; omega
      · obtain ⟨x, hx, h⟩ := Option.map_eq_some_iff.1 h
        have := ih _ _ _ _ hx
        rw [← h]; simp only [Fo.wide_one, Fo.wide_app, Fo.len_app, Fo.len_one] at *; omega
    · injection h with h; rw [← h]; simp only [Fo.wide, Fo.len] at *; omega
theorem params_wide {f : Nat} {b : Int} {i : Nat} {r : Fo × Nat × Int} (h : paramsM l f b i = some r) : r.1.len ≤ 1 ∧ r.1.wide ≤ f + 3 := by
  unfold paramsM at h
  obtain ⟨x, hx, h⟩ := Option.bind_eq_some_iff.1 h
  have := par_wide _ _ _ _ _ hx
  injection h with h; rw [← h]; simp only [Fo.wide_one, Fo.len_one] at *; omega
theorem ex_wide : ∀ (f : Nat) (t : XT) (b : Int) (i : Nat) (r : Fo × Nat × Int), exM l f t b i = some r → (r.1.len ≤ wL f t ∧ r.1.wide ≤ wW f t) := by
  intro f
  induction f with
  | zero => intro t b i r h; rw [exM] at h; cases h
  | succ f ih =>
    intro t b i r h
    cases t with
    | lambda =>
      rw [exM] at h
      obtain ⟨p, h1, h⟩ := Option.bind_eq_some_iff.1 h
      obtain ⟨t, h2, h⟩ := Option.bind_eq_some_iff.1 h
      obtain ⟨k, h3, h⟩ := Option.bind_eq_some_iff.1 h
      have := params_wide h1
      have := typed_wide h2
      have := ih _ _ _ _ h3
      injection h with h; rw [← h]; simp only [Fo.wide_app, Fo.len_app, wL, wW] at *; omega
    | block =>
      rw [exM] at h
      obtain ⟨x, h1, h⟩ := Option.bind_eq_some_iff.1 h
      have := ih _ _ _ _ h1
      injection h with h; rw [← h]; simp only [Fo.wide_one, Fo.len_one, wL, wW] at *; omega
    | stmts =>
      rw [exM] at h
      split at h
      · obtain ⟨x, h1, h⟩ := Option.bind_eq_some_iff.1 h
        obtain ⟨y, h2, h⟩ := Option.map_eq_some_iff.1 h
        have := ih _ _ _ _ h1
        have := ih _ _ _ _ h2
        rw [← h]; simp only [Fo.wide_app, Fo.len_app, wL, wW] at *; omega
      · injection h with h; rw [← h]; simp only [Fo.wide, Fo.len, wL, wW] at *; omega
    | stmt =>
      rw [exM] at h
      split at h
      · obtain ⟨c, h1, h⟩ := Option.bind_eq_some_iff.1 h
        obtain ⟨k, h2, h⟩ := Option.bind_eq_some_iff.1 h
        have := ih _ _ _ _ h1
        have := ih _ _ _ _ h2
        split at h
        · obtain ⟨o, h3, h⟩ := Option.bind_eq_some_iff.1 h
          have := ih _ _ _ _ h3
          injection h with h; rw [← h]; simp only [Fo.wide_one, Fo.wide_app, Fo.len_app, Fo.len_one, wL, wW] at *; omega
        · injection h with h; rw [← h]; simp only [Fo.wide_one, Fo.wide_app, Fo.wide_zero, Fo.len_app, Fo.len_one, Fo.len_zero, wL, wW] at *; omega
      · split at h
        · obtain ⟨c, h1, h⟩ := Option.bind_eq_some_iff.1 h
          obtain ⟨k, h2, h⟩ := Option.bind_eq_some_iff.1 h
          have := ih _ _ _ _ h1
          have := ih _ _ _ _ h2
          injection h with h; rw [← h]; simp only [Fo.wide_one, Fo.wide_app, Fo.len_app, Fo.len_one, wL, wW] at *; omega
        · split at h
          · obtain ⟨t, h1, h⟩ := Option.bind_eq_some_iff.1 h
            obtain ⟨v, h2, h⟩ := Option.bind_eq_some_iff.1 h
            have := typed_wide h1
            have := ih _ _ _ _ h2
            injection h with h; rw [← h]; simp only [Fo.wide_one, Fo.wide_app, Fo.len_app, Fo.len_one, wL, wW] at *; omega
          · obtain ⟨v, h2, h⟩ := Option.bind_eq_some_iff.1 h
            have := ih _ _ _ _ h2
            injection h with h; rw [← h]; simp only [Fo.wide_one, Fo.len_one, wL, wW] at *; omega
    | expr =>
      rw [exM] at h
      obtain ⟨a, h1, h⟩ := Option.bind_eq_some_iff.1 h
      have := ih _ _ _ _ h1
      split at h
      · injection h with h; rw [← h]; simp only [wL, wW] at *; omega
      · obtain ⟨c, h2, h⟩ := Option.bind_eq_some_iff.1 h
        have := ih _ _ _ _ h2
        injection h with h; rw [← h]; simp only [Fo.wide_one, Fo.wide_app, Fo.len_app, Fo.len_one, wL, wW] at *; omega
    | sum =>
      rw [exM] at h
      obtain ⟨a, h1, h⟩ := Option.bind_eq_some_iff.1 h
      have := ih _ _ _ _ h1
      have := ih _ _ _ _ h
      simp only [wL, wW] at *; omega
    | term =>
      rw [exM] at h
      obtain ⟨a, h1, h⟩ := Option.bind_eq_some_iff.1 h
      have := ih _ _ _ _ h1
      have := ih _ _ _ _ h
      simp only [wL, wW] at *; omega
    | post =>
      rw [exM] at h
      obtain ⟨a, h1, h⟩ := Option.bind_eq_some_iff.1 h
      have := ih _ _ _ _ h1
      have := ih _ _ _ _ h
      simp only [wL, wW] at *; omega
    | sumL a =>
      rw [exM] at h
      split at h
      · obtain ⟨c, h1, h⟩ := Option.bind_eq_some_iff.1 h
        have := ih _ _ _ _ h1
        have := ih _ _ _ _ h
        simp only [Fo.wide_one, Fo.wide_app, Fo.len_app, Fo.len_one, wL, wW] at *; omega
      · injection h with h; rw [← h]; simp only [wL, wW] at *; omega
    | termL a =>
      rw [exM] at h
      split at h
      · obtain ⟨c, h1, h⟩ := Option.bind_eq_some_iff.1 h
        have := ih _ _ _ _ h1
        have := ih _ _ _ _ h
        simp only [Fo.wide_one, Fo.wide_app, Fo.len_app, Fo.len_one, wL, wW] at *; omega
      · injection h with h; rw [← h]; simp only [wL, wW] at *; omega
    | postL a =>
      rw [exM] at h
      split at h
      · split at h
        · have := ih _ _ _ _ h
          simp only [Fo.wide_one, Fo.len_one, wL, wW] at *; omega
        · obtain ⟨k, h1, h⟩ := Option.bind_eq_some_iff.1 h
          have := ih _ _ _ _ h1
          have := ih _ _ _ _ h
          simp only [Fo.wide_one, Fo.wide_app, Fo.len_app, Fo.len_one, wL, wW] at *; omega
      · injection h with h; rw [← h]; simp only [wL, wW] at *; omega
    | args first =>
      rw [exM] at h
      split at h
      · obtain ⟨t, h1, h⟩ := Option.bind_eq_some_iff.1 h
        have := ih _ _ _ _ h1
        split at h
        · injection h with h; rw [← h]; simp only [wL, wW] at *; omega
        · obtain ⟨y, h2, h⟩ := Option.map_eq_some_iff.1 h
          have := ih _ _ _ _ h2
          rw [← h]; simp only [Fo.wide_app, Fo.len_app, wL, wW] at *; omega
      · injection h with h; rw [← h]; simp only [Fo.wide, Fo.len, wL, wW] at *; omega
    | atom =>
      rw [exM] at h
      split at h
      · injection h with h; rw [← h]; simp only [Fo.wide_zero, Fo.len_zero, wL, wW] at *; omega
      · split at h
        · injection h with h; rw [← h]; simp only [Fo.wide_one, Fo.len_one, Fo.wide, Fo.len, wL, wW] at *; omega
        · split at h
          · injection h with h; rw [← h]; simp only [Fo.wide_one, Fo.len_one, Fo.wide, Fo.len, wL, wW] at *; omega
          · split at h
            · injection h with h; rw [← h]; simp only [Fo.wide_one, Fo.len_one, Fo.wide, Fo.len, wL, wW] at *; omega
            · split at h
              · injection h with h; rw [← h]; simp only [Fo.wide_one, Fo.len_one, Fo.wide, Fo.len, wL, wW] at *; omega
              · split at h
                · obtain ⟨x, h1, h⟩ := Option.bind_eq_some_iff.1 h
                  have := ih _ _ _ _ h1
                  injection h with h; rw [← h]; simp only [Fo.wide_one, Fo.len_one, wL, wW] at *; omega
                · split at h
                  · obtain ⟨x, h1, h⟩ := Option.bind_eq_some_iff.1 h
                    have := ih _ _ _ _ h1
                    injection h with h; rw [← h]; simp only [Fo.wide_one, Fo.len_one, wL, wW] at *; omega
                  · obtain ⟨x, h1, h⟩ := Option.bind_eq_some_iff.1 h
                    have := ih _ _ _ _ h1
                    injection h with h; rw [← h]; simp only [Fo.wide_one, Fo.len_one, wL, wW] at *; omega
    | entries first =>
      rw [exM] at h
      split at h
      · obtain ⟨t, h1, h⟩ := Option.bind_eq_some_iff.1 h
        have := ih _ _ _ _ h1
        split at h
        · injection h with h; rw [← h]; simp only [Fo.wide_one, Fo.len_one, wL, wW] at *; omega
        · obtain ⟨y, h2, h⟩ := Option.map_eq_some_iff.1 h
          have := ih _ _ _ _ h2
          rw [← h]; simp only [Fo.wide_one, Fo.wide_app, Fo.len_app, Fo.len_one, wL, wW] at *; omega
      · injection h with h; rw [← h]; simp only [Fo.wide, Fo.len, wL, wW] at *; omega
theorem items_wide : ∀ (f g : Nat) (b : Int) (i : Nat) (r : Fo × Nat × Int), f ≤ g → itemsM l f b i = some r → (r.1.len ≤ f ∧ r.1.wide ≤ g + 3) := by
  intro f
  induction f with
  | zero => intro g b i r _ h; rw [itemsM] at h; cases h
  | succ f ih =>
    intro g b i r hf h
    rw [itemsM] at h
    split at h
    · split at h
      · obtain ⟨x, h1, h⟩ := Option.map_eq_some_iff.1 h
        have := ih g _ _ _ (by omega) h1
        have hu : (useM l b i).1.len = 1 ∧ (useM l b i).1.wide = 1 := by unfold useM; simp only [Fo.wide_one, Fo.wide, Fo.len_one, Fo.len]; exact ⟨trivial, rfl⟩
        rw [← h]; simp only [Fo.wide_app, Fo.len_app, hu.1, hu.2]; omega
      · obtain ⟨t, h1, h⟩ := Option.bind_eq_some_iff.1 h
        obtain ⟨x, h2, h⟩ := Option.map_eq_some_iff.1 h
        have := ih g _ _ _ (by omega) h2
        have hd : t.1.len = 1 ∧ t.1.wide ≤ f + 3 := by
          unfold defM at h1
          obtain ⟨k, h3, h1⟩ := Option.bind_eq_some_iff.1 h1
          have := ex_wide _ _ _ _ _ h3
          simp only [wL, wW] at this
          injection h1 with h1; rw [← h1]; refine ⟨rfl, ?_⟩; simp only [Fo.wide_one]; omega
        rw [← h]; simp only [Fo.wide_app, Fo.len_app]; omega
    · injection h with h; rw [← h]; simp only [Fo.wide, Fo.len]; omega
theorem items_wide' {r : Fo × Nat × Int} (h : itemsM l fuel (-1) 0 = some r) : r.1.len ≤ 1000000 ∧ r.1.wide ≤ 1000000 := by
  have h1 := items_wide fuel fuel (-1) 0 r (Nat.le_refl _) h
  unfold fuel at *
  omega
end Ps
end Go.Proofs.Ytnefnnoleeeedaa
namespace Go.Proofs.Ytnefnnoleeeedaa
open Go.RowKit
namespace Ps
def lits : List (List UInt8) := [kInt, kStr, kDyn, kFn, kUse, kDef, kIf, kElse, kWhile, kLet, kPrint, kReturn, kInput, sOpen, sShut, sParO, sParS, sCol, sCom, sSem, sDot, sEq, sEqEq, sLess, sPlus, sMinus, sStar]
structure Wf2 (l : List Tok) : Prop extends Wf l where
  conv : ∀ i (h : i < l.length), i + 1 < l.length → l[i].kind ≠ 0
  keys : ∀ i (h : i < l.length), l[i].kind ≠ 2 → l[i].kind ≠ 5 → i + 1 < l.length → ∀ x ∈ lits, l[i].text.data.toList ≠ x
theorem bel_put {B : Nat} {w w' : World} (h : Below B w w') (i : Nat) (u : Value) : Below B w (w'.setCell ⟨B, i, none⟩ u) := h.setCell (p := ⟨B, i, none⟩) (Nat.le_refl _) u
abbrev Sd := Nat × Int
def lastI (X : Cx) : Nat := X.l.length - 1
def pos (X : Cx) (s : Sd) : Nat := if 0 ≤ s.2 then lastI X else s.1
def wrong (s : Sd) : Int := if 0 ≤ s.2 then s.2 else 0
def failS (s : Sd) : Sd := if 0 ≤ s.2 then s else (s.1, (s.1 : Int))
def tk (X : Cx) (s : Sd) (x : List UInt8) : Bool := decide (s.2 < 0) && isM X.l s.1 x
structure PSt (X : Cx) (w : World) (s : Sd) : Prop where
  row : RowB w X.rb 0 #[.slice X.A X.l.length X.c, .int .i64 (pos X s), .bool (decide (0 ≤ s.2)), .int .i64 (wrong s)]
  toks : ∃ g, X.A = some ⟨g, 0, none⟩ ∧ g < X.rb ∧ ∀ i (h : i < X.l.length),
    w.cell? ⟨g, i * 4, none⟩ = some (.int .i64 X.l[i].kind) ∧ w.cell? ⟨g, i * 4 + 1, none⟩ = some (.int .i64 X.l[i].at_) ∧ w.cell? ⟨g, i * 4 + 2, none⟩ = some (.string X.l[i].lead) ∧ w.cell? ⟨g, i * 4 + 3, none⟩ = some (.string X.l[i].text)
  wf : Wf2 X.l
  cap : X.l.length ≤ X.c
  ib : s.2 < 0 → s.1 < X.l.length
  bb : s.2 < X.l.length
variable {X : Cx} {w w' : World} {s s' : Sd}
theorem PSt.toks_below (h : PSt X w s) (hb : Below (X.rb) w w') : ∃ g, X.A = some ⟨g, 0, none⟩ ∧ g < X.rb ∧ ∀ i (h : i < X.l.length),
    w'.cell? ⟨g, i * 4, none⟩ = some (.int .i64 X.l[i].kind) ∧ w'.cell? ⟨g, i * 4 + 1, none⟩ = some (.int .i64 X.l[i].at_) ∧ w'.cell? ⟨g, i * 4 + 2, none⟩ = some (.string X.l[i].lead) ∧ w'.cell? ⟨g, i * 4 + 3, none⟩ = some (.string X.l[i].text) := by
  obtain ⟨g, e, hg, hc⟩ := h.toks
  refine ⟨g, e, hg, fun i hi => ?_⟩
  obtain ⟨c0, c1, c2, c3⟩ := hc i hi
  exact ⟨(hb.cell (p := ⟨g, i * 4, none⟩) hg).trans c0, (hb.cell (p := ⟨g, i * 4 + 1, none⟩) hg).trans c1, (hb.cell (p := ⟨g, i * 4 + 2, none⟩) hg).trans c2, (hb.cell (p := ⟨g, i * 4 + 3, none⟩) hg).trans c3⟩
theorem PSt.lt (h : PSt X w s) : X.rb < w.heap.size := h.row.lt
theorem PSt.below (h : PSt X w s) (hb : Below w.heap.size w w') : PSt X w' s :=
  ⟨h.row.below hb h.row.lt, h.toks_below (hb.mono (by have := h.row.lt; omega)), h.wf, h.cap, h.ib, h.bb⟩
theorem PSt.alloc (h : PSt X w s) (o : Obj) : PSt X (w.alloc o) s := h.below ((Below.refl _ _).alloc (Nat.le_refl _) o)
theorem PSt.far (h : PSt X w s) {p : Addr} (hp : X.rb < p.block) (u : Value) : PSt X (w.setCell p u) s :=
  ⟨h.row.far (by omega) u, h.toks_below ((Below.refl _ _).setCell (by omega) u), h.wf, h.cap, h.ib, h.bb⟩
theorem PSt.grown {row : Option Nat} (h : PSt X w s) (hg : w.grownBy w' row) (hr : ∀ k, row = some k → X.rb < k) : PSt X w' s := by
  have hl := h.row.lt
  have hb : Below (X.rb + 1) w w' := (Below.refl _ _).grown hg (by omega) (fun k hk => hr k hk)
  exact ⟨h.row.below hb (by omega), h.toks_below (hb.mono (by omega)), h.wf, h.cap, h.ib, h.bb⟩
theorem PSt.len (h : PSt X w s) : 0 < X.l.length ∧ X.l.length ≤ 4000 := ⟨h.wf.pos, h.wf.le⟩
theorem PSt.last (h : PSt X w s) : lastI X + 1 = X.l.length := by have := h.len; unfold lastI; omega
theorem PSt.go (h : PSt X w s) (hs : s.2 < 0) (hi : s.1 + 1 < X.l.length) : PSt X (w.setCell ⟨X.rb, 1, none⟩ (.int .i64 ((s.1 + 1 : Nat) : Int))) (s.1 + 1, s.2) := by
  have hr := h.row.put 1 (.int .i64 ((s.1 + 1 : Nat) : Int))
  refine ⟨?_, h.toks_below (bel_put (Below.refl _ _) _ _), h.wf, h.cap, fun _ => hi, h.bb⟩
  have e : pos X (s.1 + 1, s.2) = s.1 + 1 := by unfold pos; rw [if_neg (by dsimp only; omega)]
  rw [e]
  exact hr
theorem PSt.stop (h : PSt X w s) (hs : s.2 < 0) : PSt X (((w.setCell ⟨X.rb, 2, none⟩ (.bool true)).setCell ⟨X.rb, 3, none⟩ (.int .i64 (s.1 : Int))).setCell ⟨X.rb, 1, none⟩ (.int .i64 (lastI X : Int))) (failS s) := by
  have hr := ((h.row.put 2 (.bool true)).put 3 (.int .i64 (s.1 : Int))).put 1 (.int .i64 (lastI X : Int))
  have hf : failS s = (s.1, (s.1 : Int)) := by unfold failS; rw [if_neg (by omega)]
  have hi := h.ib hs
  refine ⟨?_, h.toks_below (bel_put (bel_put (bel_put (Below.refl _ _) _ _) _ _) _ _), h.wf, h.cap, fun hh => ?_, ?_⟩
  · rw [hf]
    have e : pos X (s.1, (s.1 : Int)) = lastI X := by unfold pos; rw [if_pos (by dsimp only; omega)]
    have e2 : wrong (s.1, (s.1 : Int)) = (s.1 : Int) := by unfold wrong; rw [if_pos (by dsimp only; omega)]
    have e3 : decide (0 ≤ ((s.1, (s.1 : Int)) : Sd).2) = true := decide_eq_true (by dsimp only; omega)
    rw [e, e2, e3]
    exact hr
  · rw [hf] at hh; dsimp only at hh; omega
  · rw [hf]; dsimp only; omega
end Ps
end Go.Proofs.Ytnefnnoleeeedaa
namespace Go.Proofs.Ytnefnnoleeeedaa
open Go.RowKit
theorem append_at {w : World} {P : Program} (base : Nat) (t ty e : TypeId) (i : TypeInfo) (z : Value) (ht : P.underlying t = some (.slice e)) (hi : P.info? e = some i) (hz : i.zero = some z) (hzs : z.cells.size = i.size) (hsz : 0 < i.size)
    (v : Value) (n : Nat) (xs : List Value) (hown : w.ownsRow base e i.size v n xs)
    (a : Addr) (m c : Nat) (news : List Value) (hl : news.length = m * i.size) (hnews : ∀ j u, news[j]? = some u → w.cell? (a.add j) = some u) (h1 : ∀ u ∈ news, u.oneCell' = true)
    (h63 : n + m ≤ maxLen) (hbytes : (n + m) * i.bytes ≤ 140737488355328) (v' : Value) (w' : World)
    (hr : (Builtin.append_ #[t, t] ty #[v, .slice (some a) m c]).run P w = .ok v' w') : ∀ k, v'.ownBlock = some k → v.ownBlock = some k ∨ w.heap.size ≤ k := by
  intro k hk
  have hsmall : n + m ≤ 9223372036854775807 := by simp only [maxLen] at h63; omega
  rcases hown.2 with ⟨rfl, rfl⟩ | ⟨g, cap, cur, rfl, hbg, hg, hnc, hcm, hcs, htake⟩
  · have hx : xs = [] := List.eq_nil_of_length_eq_zero (by simpa using hown.1)
    subst hx
    obtain ⟨v2, w2, h2, h3, _, _⟩ := run_append_own (P := P) w w.heap.size t ty e i z i.size i.bytes ht hi hz rfl rfl hzs hsz (.slice none 0 0) 0 [] (World.ownsRow_nil w w.heap.size e i.size) a m c news hl hnews h1 h63 hbytes (Nat.le_refl _)
    rw [hr] at h2
    injection h2 with e1 e2
    subst e1 e2
    exact .inr (h3.lt k hk).1
  · by_cases hroom : n + m ≤ cap
    · have hfit : n * i.size + news.length ≤ cur.size := by rw [hl, hcs, ← Nat.add_mul]; exact Nat.mul_le_mul_right _ hroom
      have h2 := run_append_room (P := P) w t ty e i ht hi g n cap cur hg a m c news hl hnews h1 hroom hfit
      rw [hr] at h2
      injection h2 with e1 e2
      rw [e1] at hk
      left
      exact hk
    · have holds : ∀ j u, xs[j]? = some u → w.cell? ((⟨g, 0, none⟩ : Addr).add j) = some u := hown.cells (g := g) rfl
      have h2 := run_append_grow (P := P) w t ty e i z ht hi hz ⟨g, 0, none⟩ n cap xs hown.1 holds a m c news hl hnews (by omega) (by omega) (growslice_fits (by omega) hbytes)
      rw [hr] at h2
      injection h2 with e1 e2
      rw [e1] at hk
      simp [Value.ownBlock] at hk
      omega
theorem wpList_append_at {w : World} {P : Program} {ops : Array Oper} {rest : List Oper} {o : Oper} {a : Act} {Q : Exit → Act → World → Prop} (hgd : o.guard = none) (s x : Operand) (t : TypeId)
    (ho : o.op = .call { callee := .builtin .append, args := #[s, x], argTypes := #[t, t] })
    (base : Nat) (e : TypeId) (i : TypeInfo) (z : Value) (size bytes : Nat) (ht : P.underlying t = some (.slice e)) (hi : P.info? e = some i) (hz : i.zero = some z)
    (hsize : i.size = size) (hby : i.bytes = bytes) (hzs : z.cells.size = size) (hsz : 0 < size)
    (v : Value) (n : Nat) (xs : List Value) (hs : a.eval s = v) (hown : w.ownsRow base e size v n xs)
    (ad : Addr) (m c : Nat) (news : List Value) (hx : a.eval x = .slice (some ad) m c) (hl : news.length = m * size) (hnews : ∀ j u, news[j]? = some u → w.cell? (ad.add j) = some u) (h1 : ∀ u ∈ news, u.oneCell' = true)
    (h63 : n + m ≤ maxLen) (hbytes : (n + m) * bytes ≤ 140737488355328) (hbase : base ≤ w.heap.size)
    (h : ∀ v' w', w'.ownsRow base e size v' (n + m) (xs ++ news) → w.grownBy w' v.ownBlock → (∀ k, v'.ownBlock = some k → v.ownBlock = some k ∨ w.heap.size ≤ k) → wpList P ops Q rest (a.put o.dst v') w') : wpList P ops Q (o :: rest) a w := by
  refine wpList_plain hgd fun K hK => ?_
  obtain ⟨v', w', hr, h2, h3, h4⟩ := run_append_own (P := P) w base t o.type e i z size bytes ht hi hz hsize hby hzs hsz v n xs hown ad m c news hl hnews h1 h63 hbytes hbase
  subst hsize hby
  have h5 := append_at base t o.type e i z ht hi hz hzs hsz v n xs hown ad m c news hl hnews h1 h63 hbytes v' w' hr
  unfold Oper.wp execOp
  simp only [ho, resolve, invoke, builtin, Sem.run_bind, Sem.run_pure, Result.andThen_ok, List.map_toArray, List.map_cons, List.map_nil, hs, hx, hr]
  exact hK _ _ (h v' w' h2 h3 h5)
namespace Ps
theorem KV.new_ {w : World} {P : Nat → Prop} {k : Fo} {A : Option Addr} {cap lo : Nat} (h : KV w P k A cap) (hP : ∀ g, P g → lo ≤ g) : KV w (fun g => lo ≤ g) k A cap := h.keep (Nat.le_refl _) (fun g hg _ => ⟨rfl, hP g hg⟩)
theorem six {c : Array Value} (hc : c.size = 6) (u0 u1 u2 u3 u4 u5 : Value) : (((((c.setIfInBounds 0 u0).setIfInBounds 1 u1).setIfInBounds 2 u2).setIfInBounds 3 u3).setIfInBounds 4 u4).setIfInBounds 5 u5 = #[u0, u1, u2, u3, u4, u5] := by
  obtain ⟨l⟩ := c
  match l, hc with
  | [_, _, _, _, _, _], _ => rfl
theorem cells_nd (w : World) (a b c d e f : Value) (j : Nat) (u : Value) (hj : [a, b, c, d, e, f][j]? = some u) : (w.alloc (.cells #[a, b, c, d, e, f] 25)).cell? ((⟨w.heap.size, 0, none⟩ : Addr).add j) = some u :=
  World.news_of_block (heap_alloc_new w (.cells #[a, b, c, d, e, f] 25)) j u hj
theorem one_nd (h : Hd) (A : Option Addr) (n c : Nat) : ∀ u ∈ [Value.int .i64 h.kind, .int .i64 h.fro, .int .i64 h.til, .string h.word, .int .i64 h.at_, .slice A n c], u.oneCell' = true := by
  simp [Value.oneCell']
theorem info25 : (Try.prog.info? 25).map (fun i => (i.zero, i.size, i.bytes)) = some (some (.agg #[.int .i64 0, .int .i64 0, .int .i64 0, .string ⟨#[]⟩, .int .i64 0, .slice none 0 0]), 6, 72) := by kernel_rfl
end Ps
end Go.Proofs.Ytnefnnoleeeedaa
namespace Go.Proofs.Ytnefnnoleeeedaa
open Go.RowKit
namespace Pg
open Ps
abbrev Row := Nat × TypeId × Array Value
abbrev Kid := Fo × Option Addr × Nat
def PB (lo : Nat) (Rs : List Row) (v : Value) (g : Nat) : Prop := lo ≤ g ∧ (∀ p ∈ Rs, p.1 ≠ g) ∧ v.ownBlock ≠ some g
structure LS (X : Cx) (w0 w : World) (b : Sd) (Rs : List Row) (Ks : List Kid) (v : Value) (K : Fo) : Prop where
  st : PSt X w b
  fr : Fr X.rb w0.heap.size w0 w
  rows : ∀ p ∈ Rs, RowB w p.1 p.2.1 p.2.2 ∧ w0.heap.size ≤ p.1
  nd : (Rs.map Prod.fst).Nodup
  kvs : ∀ k ∈ Ks, KV w (PB w0.heap.size Rs v) k.1 k.2.1 k.2.2
  own : ∃ cs, w.ownsRow w0.heap.size 25 6 v K.len cs ∧ FC w (PB w0.heap.size Rs v) K cs
  ownr : ∀ p ∈ Rs, v.ownBlock ≠ some p.1
  rb : X.rb < w0.heap.size
variable {X : Cx} {w0 w w' : World} {b : Sd} {Rs : List Row} {Ks : List Kid} {v : Value} {K : Fo}
theorem LS.start (h : PSt X w b) : LS X w w b [] [] (.slice none 0 0) .nil :=
  ⟨h, Fr.refl _ _ _, (by simp), (by simp), (by simp), ⟨[], World.ownsRow_nil _ _ _ _, by rw [FC]⟩, (by simp), h.row.lt⟩
theorem LS.size (h : LS X w0 w b Rs Ks v K) : w0.heap.size ≤ w.heap.size := h.fr.size
theorem LS.step (h : LS X w0 w b Rs Ks v K) {b' : Sd} (hS : PSt X w' b') (hF : Fr X.rb w.heap.size w w') : LS X w0 w' b' Rs Ks v K := by
  have hrb := h.rb
  have hb : ∀ g, PB w0.heap.size Rs v g → g < w.heap.size → w'.heap[g]? = w.heap[g]? ∧ PB w0.heap.size Rs v g := fun g hg hl => ⟨hF.block g hl (by have := hg.1; omega), hg⟩
  refine ⟨hS, h.fr.trans (hF.mono h.size), fun p hp => ?_, h.nd, fun k hk => (h.kvs k hk).keep hF.size hb, ?_, h.ownr, hrb⟩
  · obtain ⟨r1, r2⟩ := h.rows p hp
    exact ⟨hF.row r1 r1.lt (by omega), r2⟩
  · obtain ⟨cs, o1, o2⟩ := h.own
    exact ⟨cs, hF.own o1 hrb, o2.keep hF.size hb⟩
theorem LS.other (h : LS X w0 w b Rs Ks v K) (hb : Below w.heap.size w w') : LS X w0 w' b Rs Ks v K := h.step (h.st.below hb) (.of hb)
theorem LS.alloc (h : LS X w0 w b Rs Ks v K) (g0 : Nat) (hg0 : g0 = w.heap.size) (t : TypeId) (c : Array Value) : LS X w0 (w.alloc (.cells c t)) b ((g0, t, c) :: Rs) Ks v K := by
  subst hg0
  have h' := h.other (bel1 w (.cells c t))
  have hsz := h.size
  have hlt : ∀ p ∈ Rs, p.1 < w.heap.size := fun p hp => (h.rows p hp).1.lt
  have hP : ∀ g, PB w0.heap.size Rs v g → g < w.heap.size → PB w0.heap.size ((w.heap.size, t, c) :: Rs) v g := fun g hg hl => ⟨hg.1, fun p hp => by
    rcases List.mem_cons.1 hp with rfl | hp
    · exact Nat.ne_of_gt hl
    · exact hg.2.1 p hp, hg.2.2⟩
  have hbk : ∀ g, PB w0.heap.size Rs v g → g < w.heap.size → (w.alloc (.cells c t)).heap[g]? = w.heap[g]? ∧ PB w0.heap.size ((w.heap.size, t, c) :: Rs) v g := fun g hg hl => ⟨Below.heap_alloc _ _ _ hl, hP g hg hl⟩
  refine ⟨h'.st, h'.fr, fun p hp => ?_, ?_, fun k hk => (h.kvs k hk).keep (by simp) hbk, ?_, fun p hp => ?_, h.rb⟩
  · rcases List.mem_cons.1 hp with rfl | hp
    · exact ⟨RowB.new w t c, hsz⟩
    · exact h'.rows p hp
  · rw [List.map_cons, List.nodup_cons]
    refine ⟨fun hm => ?_, h.nd⟩
    obtain ⟨p, hp, e⟩ := List.mem_map.1 hm
    have := hlt p hp
    dsimp only at e
    omega
  · obtain ⟨cs, o1, o2⟩ := h.own
    exact ⟨cs, o1.alloc _, o2.keep (by simp) hbk⟩
  · rcases List.mem_cons.1 hp with rfl | hp
    · intro e
      obtain ⟨cs, o1, _⟩ := h.own
      have := (o1.lt _ e).2
      dsimp only at this
      omega
    · exact h.ownr p hp
theorem LS.kid (h : LS X w0 w b Rs Ks v K) {b' : Sd} (hS : PSt X w' b') (hF : Fr X.rb w.heap.size w w') {k : Fo} {A : Option Addr} {cap : Nat} (hk : KV w' (fun g => w.heap.size ≤ g) k A cap) : LS X w0 w' b' Rs ((k, A, cap) :: Ks) v K := by
  have h' := h.step hS hF
  have hsz := h.size
  refine ⟨h'.st, h'.fr, h'.rows, h'.nd, fun x hx => ?_, h'.own, h'.ownr, h'.rb⟩
  rcases List.mem_cons.1 hx with rfl | hx
  · refine hk.keep (Nat.le_refl _) (fun g hg _ => ⟨rfl, by omega, fun p hp e => ?_, fun e => ?_⟩)
    · have := (h.rows p hp).1.lt; omega
    · obtain ⟨cs, o1, _⟩ := h.own
      have := (o1.lt _ e).2
      omega
  · exact h'.kvs x hx
theorem LS.slice (h : LS X w0 w b Rs Ks v K) (g0 : Nat) (hg0 : g0 = w.heap.size) {k : Fo} {cs : Array Value} (hf : FC w (PB w0.heap.size Rs v) k cs.toList) : LS X w0 (w.alloc (.cells cs 25)) b Rs ((k, some ⟨g0, 0, none⟩, k.len) :: Ks) v K := by
  subst hg0
  have h' := h.other (bel1 w (.cells cs 25))
  have hsz := h.size
  refine ⟨h'.st, h'.fr, h'.rows, h'.nd, fun x hx => ?_, h'.own, h'.ownr, h'.rb⟩
  rcases List.mem_cons.1 hx with rfl | hx
  · refine KV.new (RowB.new w 25 cs) (hf.keep (by simp) (fun g hg hl => ⟨Below.heap_alloc _ _ _ hl, hg⟩)) ⟨hsz, fun p hp e => ?_, fun e => ?_⟩
    · have := (h.rows p hp).1.lt; omega
    · obtain ⟨cs', o1, _⟩ := h.own
      have := (o1.lt _ e).2
      omega
  · exact h'.kvs x hx
theorem LS.set (h : LS X w0 w b Rs Ks v K) (n : Nat) {g : Nat} {t : TypeId} {c : Array Value} (hn : Rs[n]? = some (g, t, c)) (i : Nat) (u : Value) : LS X w0 (w.setCell ⟨g, i, none⟩ u) b (Rs.set n (g, t, c.setIfInBounds i u)) Ks v K := by
  have hrb := h.rb
  obtain ⟨hlt, hg⟩ := List.getElem?_eq_some_iff.1 hn
  obtain ⟨r1, r2⟩ := h.rows (g, t, c) (by rw [← hg]; exact List.getElem_mem hlt)
  dsimp only at r1 r2
  have hfst : (Rs.set n (g, t, c.setIfInBounds i u)).map Prod.fst = Rs.map Prod.fst := by
    rw [List.map_set]
    apply List.ext_getElem (by simp)
    intro j h1 h2
    rw [List.getElem_set]
    split
    · rename_i e; subst e; simp [hg]
    · rfl
  have hmem : ∀ p ∈ Rs.set n (g, t, c.setIfInBounds i u), ∃ q ∈ Rs, q.1 = p.1 := fun p hp => by
    have : p.1 ∈ (Rs.set n (g, t, c.setIfInBounds i u)).map Prod.fst := List.mem_map_of_mem hp
    rw [hfst] at this
    exact List.mem_map.1 this
  have hgm : (g, t, c) ∈ Rs := by rw [← hg]; exact List.getElem_mem hlt
  have hP : ∀ g', PB w0.heap.size Rs v g' → g' < w.heap.size → (w.setCell ⟨g, i, none⟩ u).heap[g']? = w.heap[g']? ∧ PB w0.heap.size (Rs.set n (g, t, c.setIfInBounds i u)) v g' := fun g' hg' _ => by
    refine ⟨Below.heap_setCell _ _ _ _ (fun e => hg'.2.1 _ hgm e.symm), hg'.1, fun p hp => ?_, hg'.2.2⟩
    obtain ⟨q, hq, e⟩ := hmem p hp
    rw [← e]; exact hg'.2.1 q hq
  refine ⟨h.st.far (by dsimp only; omega) u, h.fr.setCell (by dsimp only; omega) u, fun p hp => ?_, by rw [hfst]; exact h.nd, fun k hk => (h.kvs k hk).keep (by simp [World.setCell]) hP, ?_, fun p hp => ?_, hrb⟩
  · obtain ⟨j, hj, rfl⟩ := List.getElem_of_mem hp
    have hj' : j < Rs.length := by simpa using hj
    rw [List.getElem_set]
    split
    · exact ⟨r1.put i u, r2⟩
    · rename_i ej
      obtain ⟨q1, q2⟩ := h.rows _ (List.getElem_mem hj')
      refine ⟨q1.far (fun e => ?_) u, q2⟩
      have hnd := List.pairwise_iff_getElem.1 h.nd
      dsimp only at e
      rcases Nat.lt_or_gt_of_ne ej with h1 | h1
      · have := hnd n j (by simpa using hlt) (by simpa using hj') h1
        simp [hg, e] at this
      · have := hnd j n (by simpa using hj') (by simpa using hlt) h1
        simp [hg, e] at this
  · obtain ⟨cs, o1, o2⟩ := h.own
    exact ⟨cs, ownsRow_setCell_other o1 (a := ⟨g, i, none⟩) (h.ownr _ hgm) u, o2.keep (by simp [World.setCell]) hP⟩
  · obtain ⟨q, hq, e⟩ := hmem p hp
    rw [← e]; exact h.ownr q hq
theorem LS.push (h : LS X w0 w b Rs Ks v K) {v' : Value} {k : Fo} {news cs : List Value} (hc : w.ownsRow w0.heap.size 25 6 v K.len cs ∧ FC w (PB w0.heap.size Rs v) K cs) (hf : FC w (PB w0.heap.size Rs v) k news) (hown : w'.ownsRow w0.heap.size 25 6 v' (K.len + k.len) (cs ++ news)) (hg : w.grownBy w' v.ownBlock) (hat : ∀ j, v'.ownBlock = some j → v.ownBlock = some j ∨ w.heap.size ≤ j) : LS X w0 w' b Rs Ks v' (K.app k) := by
  have hrb := h.rb
  have hlt := hc.1.lt
  have hP : ∀ g, PB w0.heap.size Rs v g → g < w.heap.size → w'.heap[g]? = w.heap[g]? ∧ PB w0.heap.size Rs v' g := fun g hp hl => by
    refine ⟨hg.block g hl (fun e => hp.2.2 e.symm), hp.1, hp.2.1, fun e => ?_⟩
    rcases hat g e with e | e
    · exact hp.2.2 e
    · omega
  refine ⟨h.st.grown hg (fun j e => ?_), h.fr.grown hg h.size (fun j e => (hlt j e).1), fun p hp => ?_, h.nd, fun x hx => (h.kvs x hx).keep hg.size hP, ⟨cs ++ news, ?_, FC.app K cs (hc.2.keep hg.size hP) (hf.keep hg.size hP)⟩, fun p hp e => ?_, hrb⟩
  · have := (hlt j e).1; omega
  · obtain ⟨r1, r2⟩ := h.rows p hp
    exact ⟨r1.grown hg (fun e => h.ownr p hp e.symm), r2⟩
  · rw [Fo.len_app]; exact hown
  · rcases hat _ e with e | e
    · exact h.ownr p hp e
    · have := (h.rows p hp).1.lt
      omega
theorem LS.list (h : LS X w0 w b Rs Ks v K) : ∃ A cap, v = .slice A K.len cap ∧ K.len ≤ cap ∧ KV w (fun g => w0.heap.size ≤ g) K A cap := by
  obtain ⟨cs, o1, o2⟩ := h.own
  have hv : ∃ A cap, v = .slice A K.len cap ∧ K.len ≤ cap := by
    rcases o1.2 with ⟨rfl, e⟩ | ⟨g, cap, cur, rfl, _, _, hc, _⟩
    · exact ⟨none, 0, by rw [e], by omega⟩
    · exact ⟨_, cap, rfl, hc⟩
  obtain ⟨A, cap, rfl, hc⟩ := hv
  exact ⟨A, cap, rfl, hc, KV.of_own o1 rfl o2 (fun g hg => hg.1) (fun g hg _ => hg) hc⟩
theorem LS.listP (h : LS X w0 w b Rs Ks v K) : ∃ A cap, v = .slice A K.len cap ∧ K.len ≤ cap ∧ KV w (fun g => w0.heap.size ≤ g ∧ ∀ p ∈ Rs, p.1 ≠ g) K A cap := by
  obtain ⟨A, cap, rfl, hc, _⟩ := h.list
  obtain ⟨cs, o1, o2⟩ := h.own
  exact ⟨A, cap, rfl, hc, KV.of_own o1 rfl o2 (fun g hg => ⟨hg.1, hg.2.1⟩) (fun g hg e => ⟨hg, fun p hp e2 => h.ownr p hp (by rw [e2]; exact e)⟩) hc⟩
theorem LS.fresh (h : LS X w0 w b Rs Ks v K) : LS X w0 w b Rs Ks (.slice none 0 0) .nil :=
  ⟨h.st, h.fr, h.rows, h.nd, fun k hk => (h.kvs k hk).keep (Nat.le_refl _) (fun g hg _ => ⟨rfl, hg.1, hg.2.1, by simp [Value.ownBlock]⟩), ⟨[], World.ownsRow_nil _ _ _ _, by rw [FC]⟩, fun p _ => by simp [Value.ownBlock], h.rb⟩
theorem LS.row (h : LS X w0 w b Rs Ks v K) (n : Nat) {g : Nat} {t : TypeId} {c : Array Value} (hn : Rs[n]? = some (g, t, c)) : RowB w g t c := by
  obtain ⟨hlt, hg⟩ := List.getElem?_eq_some_iff.1 hn
  exact (h.rows (g, t, c) (by rw [← hg]; exact List.getElem_mem hlt)).1
theorem LS.kidP (h : LS X w0 w b Rs Ks v K) (n : Nat) {k : Fo} {A : Option Addr} {cap : Nat} (hn : Ks[n]? = some (k, A, cap)) : KV w (PB w0.heap.size Rs v) k A cap := by
  obtain ⟨hlt, hg⟩ := List.getElem?_eq_some_iff.1 hn
  exact h.kvs (k, A, cap) (by rw [← hg]; exact List.getElem_mem hlt)
theorem LS.put6 (h : LS X w0 w b Rs Ks v K) (n : Nat) {g : Nat} {t : TypeId} {c : Array Value} (hn : Rs[n]? = some (g, t, c)) (hc : c.size = 6) (u0 u1 u2 u3 u4 u5 : Value) :
    LS X w0 ((((((w.setCell ⟨g, 0, none⟩ u0).setCell ⟨g, 1, none⟩ u1).setCell ⟨g, 2, none⟩ u2).setCell ⟨g, 3, none⟩ u3).setCell ⟨g, 4, none⟩ u4).setCell ⟨g, 5, none⟩ u5) b (Rs.set n (g, t, #[u0, u1, u2, u3, u4, u5])) Ks v K := by
  have hlt : n < Rs.length := (List.getElem?_eq_some_iff.1 hn).1
  have key : ∀ (l : List Row) (x : Row), l.length = Rs.length → (l.set n x)[n]? = some x := fun l x hl => by rw [List.getElem?_set_self (by omega)]
  have h1 := h.set n hn 0 u0
  have h2 := h1.set n (key _ _ (by simp)) 1 u1
  have h3 := h2.set n (key _ _ (by simp)) 2 u2
  have h4 := h3.set n (key _ _ (by simp)) 3 u3
  have h5 := h4.set n (key _ _ (by simp)) 4 u4
  have h6 := h5.set n (key _ _ (by simp)) 5 u5
  simp only [List.set_set] at h6
  rwa [six hc] at h6
theorem LS.lit (h : LS X w0 w b Rs Ks v K) {k : Fo} {cs : Array Value} (hf : FC w (PB w0.heap.size Rs (.slice none 0 0)) k cs.toList) (g0 : Nat) (hg0 : g0 = w.heap.size) (hm : k.len ≤ maxLen) : LS X w0 (w.alloc (.cells cs 25)) b Rs Ks (.slice (some ⟨g0, 0, none⟩) k.len k.len) k := by
  subst hg0
  have h' := h.fresh.other (bel1 w (.cells cs 25))
  have hsz := h.size
  have hkl := hf.len
  have hbk : ∀ g, PB w0.heap.size Rs (.slice none 0 0) g → g < w.heap.size → (w.alloc (.cells cs 25)).heap[g]? = w.heap[g]? ∧ PB w0.heap.size Rs (.slice (some ⟨w.heap.size, 0, none⟩) k.len k.len) g := fun g hg hl => ⟨Below.heap_alloc _ _ _ hl, hg.1, hg.2.1, by simp [Value.ownBlock]; omega⟩
  refine ⟨h'.st, h'.fr, h'.rows, h'.nd, fun x hx => (h.fresh.kvs x hx).keep (by simp) hbk, ⟨cs.toList, ⟨by simpa using hkl, .inr ⟨w.heap.size, k.len, cs, rfl, hsz, heap_alloc_new w _, Nat.le_refl _, hm, by simpa using hkl, ?_⟩⟩, hf.keep (by simp) hbk⟩, fun p hp => ?_, h.rb⟩
  · rw [List.take_of_length_le (by rw [hkl]; exact Nat.le_refl _)]
  · have := (h.rows p hp).1.lt
    simp [Value.ownBlock]; omega
theorem LS.drop {p : Row} (h : LS X w0 w b (p :: Rs) Ks v K) : LS X w0 w b Rs Ks v K := by
  have hb : ∀ g, PB w0.heap.size (p :: Rs) v g → g < w.heap.size → w.heap[g]? = w.heap[g]? ∧ PB w0.heap.size Rs v g := fun g hg _ => ⟨rfl, hg.1, fun q hq => hg.2.1 q (List.mem_cons_of_mem _ hq), hg.2.2⟩
  obtain ⟨cs, o1, o2⟩ := h.own
  exact ⟨h.st, h.fr, fun q hq => h.rows q (List.mem_cons_of_mem _ hq), (List.nodup_cons.1 h.nd).2, fun k hk => (h.kvs k hk).keep (Nat.le_refl _) hb, ⟨cs, o1, o2.keep (Nat.le_refl _) hb⟩, fun q hq => h.ownr q (List.mem_cons_of_mem _ hq), h.rb⟩
theorem LS.noK (h : LS X w0 w b Rs Ks v K) : LS X w0 w b Rs [] v K :=
  ⟨h.st, h.fr, h.rows, h.nd, fun q hq => by simp at hq, h.own, h.ownr, h.rb⟩
theorem LS.kv {A : Option Addr} {cap n : Nat} (h : LS X w0 w b Rs Ks (.slice A n cap) K) : KV w (fun g => w0.heap.size ≤ g) K A cap := by
  obtain ⟨A', cap', e, hc, hk⟩ := h.list
  obtain ⟨e1, e2, e3⟩ := Value.slice.inj e
  rw [e1, e3]
  exact hk
theorem LS.K1 {k : Kid} (h : LS X w0 w b Rs (k :: Ks) v K) : LS X w0 w b Rs [k] v K :=
  ⟨h.st, h.fr, h.rows, h.nd, fun q hq => h.kvs q (by rw [List.mem_singleton.1 hq]; exact List.mem_cons_self), h.own, h.ownr, h.rb⟩
theorem LS.toKid {A : Option Addr} {cap n : Nat} (h : LS X w0 w b Rs Ks (.slice A n cap) K) : LS X w0 w b Rs ((K, A, cap) :: Ks) (.slice none 0 0) .nil := by
  have hf := h.fresh
  obtain ⟨A', cap', e, hc, hk⟩ := h.listP
  obtain ⟨e1, e2, e3⟩ := Value.slice.inj e
  refine ⟨hf.st, hf.fr, hf.rows, hf.nd, fun x hx => ?_, hf.own, hf.ownr, hf.rb⟩
  rcases List.mem_cons.1 hx with rfl | hx
  · rw [← e1, ← e3] at hk
    exact hk.keep (Nat.le_refl _) (fun g hg _ => ⟨rfl, hg.1, hg.2, by simp [Value.ownBlock]⟩)
  · exact hf.kvs x hx
end Pg
end Go.Proofs.Ytnefnnoleeeedaa
namespace Go.Proofs.Ytnefnnoleeeedaa
open Go.RowKit
namespace Pg
open Ps
def wantS (X : Cx) (s : Sd) (x : List UInt8) : Sd := wantM X.l s.2 s.1 x
abbrev nv0 : Value := .agg #[.int .i64 0, .int .i64 0, .int .i64 0, .string ⟨#[]⟩, .int .i64 0, .slice none 0 0]
abbrev nvv (h : Hd) (A : Option Addr) (n cap : Nat) : Value := .agg #[.int .i64 h.kind, .int .i64 h.fro, .int .i64 h.til, .string h.word, .int .i64 h.at_, .slice A n cap]
abbrev ncc (h : Hd) (A : Option Addr) (n cap : Nat) : Array Value := #[.int .i64 h.kind, .int .i64 h.fro, .int .i64 h.til, .string h.word, .int .i64 h.at_, .slice A n cap]
end Pg
end Go.Proofs.Ytnefnnoleeeedaa
namespace Go.Proofs.Ytnefnnoleeeedaa
open Go.RowKit
namespace Pg
open Ps
theorem below_put6 {B g : Nat} {w w' : World} (h : Below B w w') (hg : B ≤ g) (u0 u1 u2 u3 u4 u5 : Value) : Below B w ((((((w'.setCell ⟨g, 0, none⟩ u0).setCell ⟨g, 1, none⟩ u1).setCell ⟨g, 2, none⟩ u2).setCell ⟨g, 3, none⟩ u3).setCell ⟨g, 4, none⟩ u4).setCell ⟨g, 5, none⟩ u5) :=
  Below.setCell (p := ⟨g, 5, none⟩) (Below.setCell (p := ⟨g, 4, none⟩) (Below.setCell (p := ⟨g, 3, none⟩) (Below.setCell (p := ⟨g, 2, none⟩) (Below.setCell (p := ⟨g, 1, none⟩) (Below.setCell (p := ⟨g, 0, none⟩) h hg u0) hg u1) hg u2) hg u3) hg u4) hg u5
abbrev zcc : Array Value := #[.int .i64 0, .int .i64 0, .int .i64 0, .string ⟨#[]⟩, .int .i64 0, .slice none 0 0]
end Pg
end Go.Proofs.Ytnefnnoleeeedaa
namespace Go.Proofs.Ytnefnnoleeeedaa
open Go.RowKit
namespace Pg
open Ps
def NodeQ (X : Cx) (w : World) (r : Fo × Sd) (e : Ending) (w' : World) : Prop :=
  ∃ h k A cap, e = .returned (nvv h A k.len cap) ∧ KV w' (fun g => w.heap.size ≤ g) k A cap ∧ PSt X w' r.2 ∧ Fr X.rb w.heap.size w w' ∧ (r.2.2 < 0 → r.1 = .one h k)
def RuleQ (X : Cx) (P : Prop) (M : Sd → Res) (fn : Nat) : Prop := ∀ (s : Sd) (w : World) (r : Fo × Sd), (s.2 < 0 → P ∧ M s = some r) → (0 ≤ s.2 → r.2.2 = s.2) → PSt X w s →
  Calls Try.prog fn #[X.p] w (NodeQ X w r)
theorem PSt.to {X : Cx} {w : World} {s s' : Sd} (h : PSt X w s) (h1 : s.2 < 0 → s' = s) (h2 : 0 ≤ s.2 → s'.2 = s.2) : PSt X w s' := by
  by_cases hs : s.2 < 0
  · rw [h1 hs]; exact h
  · have hs' : 0 ≤ s.2 := by omega
    have e := h2 hs'
    have hs2 : 0 ≤ s'.2 := by rw [e]; exact hs'
    have e1 : pos X s' = pos X s := by unfold pos; rw [if_pos hs2, if_pos hs']
    have e2 : wrong s' = wrong s := by unfold wrong; rw [if_pos hs2, if_pos hs', e]
    refine ⟨?_, h.toks, h.wf, h.cap, fun hh => absurd hh (by omega), by rw [e]; exact h.bb⟩
    rw [e1, e2, e]
    exact h.row
end Pg
end Go.Proofs.Ytnefnnoleeeedaa
namespace Go.Proofs.Ytnefnnoleeeedaa
open Go.RowKit
namespace Pg
open Ps
def NodesQ (X : Cx) (n : Nat) (w : World) (r : Fo × Sd) (e : Ending) (w' : World) : Prop :=
  ∃ v K, e = .returned v ∧ (∃ cs, w'.ownsRow w.heap.size 25 6 v K.len cs ∧ FC w' (fun g => w.heap.size ≤ g ∧ v.ownBlock ≠ some g) K cs) ∧ PSt X w' r.2 ∧ Fr X.rb w.heap.size w w' ∧ (r.2.2 < 0 → r.1 = K) ∧ K.len ≤ n
def InvR (X : Cx) (P : Prop) (M : RT) (last : List UInt8) (r : Fo × Sd) (fk : Nat) (sk : Sd) (K : Fo) : Prop :=
  (sk.2 < 0 → P ∧ ∃ r', restM X.l M last fk sk.2 sk.1 = some r' ∧ r.1 = K.app r'.1 ∧ r.2 = wantM X.l r'.2.2 r'.2.1 last) ∧ (0 ≤ sk.2 → r.2.2 = sk.2)
theorem rest_bad {l : List Tok} {M : RT} {last : List UInt8} {f : Nat} {b : Int} {i : Nat} {r : Fo × Nat × Int} (h : restM l M last f b i = some r) (hb : 0 ≤ b) : r = (.nil, i, b) := by
  unfold restM at h
  rw [if_pos (.inl hb)] at h
  injection h with h; exact h.symm
theorem InvR.next {X : Cx} {P : Prop} {M : RT} {last : List UInt8} {r t r' r'' : Fo × Sd} {f' : Nat} {K : Fo} {h : Hd} {k : Fo} (hP : P) (h1 : restM X.l M last f' t.2.2 t.2.1 = some r'') (h2 : r' = (t.1.app r''.1, r''.2)) (h3 : r.1 = K.app r'.1) (h4 : r.2 = wantM X.l r'.2.2 r'.2.1 last) (hn : t.2.2 < 0 → t.1 = .one h k) :
    InvR X P M last r f' t.2 (K.app (.one h k)) := by
  refine ⟨fun hb => ⟨hP, r'', h1, ?_, ?_⟩, fun hb => ?_⟩
  · rw [h3, h2, hn hb, Fo.app_assoc]
  · rw [h4, h2]
  · have := rest_bad h1 hb
    rw [h4, h2, this]
    dsimp only
    rw [wantM_bad hb]
end Pg
end Go.Proofs.Ytnefnnoleeeedaa
namespace Go.Proofs.Ytnefnnoleeeedaa
open Go.RowKit
namespace Pg
open Ps
def LabI (X : Cx) (kd F b0 : Nat) (w : World) : Prop := X.rb < b0 ∧ RowB w b0 0 #[X.p] ∧ RowB w (b0 + 1) 3 #[.int .i64 kd] ∧ RowB w (b0 + 2) 88 #[.func (.func F) #[X.p] #[]]
theorem LabI.keep {X : Cx} {kd F b0 : Nat} {w w' : World} (h : LabI X kd F b0 w) (hf : Fr X.rb w.heap.size w w') : LabI X kd F b0 w' :=
  ⟨h.1, hf.row h.2.1 h.2.1.lt (by have := h.1; omega), hf.row h.2.2.1 h.2.2.1.lt (by have := h.1; omega), hf.row h.2.2.2 h.2.2.2.lt (by have := h.1; omega)⟩
theorem LabI.new {X : Cx} {kd F : Nat} {w : World} (hrb : X.rb < w.heap.size) : LabI X kd F w.heap.size (((w.alloc (.cells #[X.p] 0)).alloc (.cells #[.int .i64 kd] 3)).alloc (.cells #[.func (.func F) #[X.p] #[]] 88)) := by
  refine ⟨hrb, ((RowB.new w 0 #[X.p]).alloc _).alloc _, ?_, ?_⟩
  · have := (RowB.new (w.alloc (.cells #[X.p] 0)) 3 #[.int .i64 kd]).alloc (.cells #[.func (.func F) #[X.p] #[]] 88)
    simpa using this
  · have := RowB.new ((w.alloc (.cells #[X.p] 0)).alloc (.cells #[.int .i64 kd] 3)) 88 #[.func (.func F) #[X.p] #[]]
    simpa using this
end Pg
end Go.Proofs.Ytnefnnoleeeedaa
