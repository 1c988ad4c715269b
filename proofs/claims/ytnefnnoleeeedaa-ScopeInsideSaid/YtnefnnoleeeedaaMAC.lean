/- Memory in which one block turns, the reader; nodes in memory. -/
import Derived.Deep.LoopGhost
import Derived.Deep.CutRange
import Derived.Deep.OwnRows
import Derived.Test.YtnefnnoleeeedaaMAB
import Derived.Laws.AppendOwn
import Derived.Maps.OwnSet
import Derived.Deep.AppendLies
import Derived.BigQuiet
namespace Go.Proofs.Ytnefnnoleeeedaa
open Go.RowKit

/-- Nothing below block B turns but block rb. -/
structure Fr (rb B : Nat) (w w' : World) : Prop where
  os : w'.os = w.os
  tape : w'.tape = w.tape
  output : w'.output = w.output
  size : w.heap.size ≤ w'.heap.size
  block : ∀ k, k < B → k ≠ rb → w'.heap[k]? = w.heap[k]?
theorem Fr.refl (rb B : Nat) (w : World) : Fr rb B w w := ⟨rfl, rfl, rfl, Nat.le_refl _, fun _ _ _ => rfl⟩
theorem Fr.trans {rb B : Nat} {a b c : World} (h : Fr rb B a b) (k : Fr rb B b c) : Fr rb B a c :=
  ⟨k.os.trans h.os, k.tape.trans h.tape, k.output.trans h.output, Nat.le_trans h.size k.size, fun i hi hr => (k.block i hi hr).trans (h.block i hi hr)⟩
theorem Fr.mono {rb B B' : Nat} {w w' : World} (h : Fr rb B w w') (hB : B' ≤ B) : Fr rb B' w w' := ⟨h.os, h.tape, h.output, h.size, fun k hk hr => h.block k (by omega) hr⟩
theorem Fr.of {rb B : Nat} {w w' : World} (h : Below B w w') : Fr rb B w w' := ⟨h.os, h.tape, h.output, h.size, fun k hk _ => h.block k hk⟩
theorem Fr.below {rb B B' : Nat} {w w' : World} (h : Fr rb B w w') (h1 : B' ≤ B) (h2 : B' ≤ rb) : Below B' w w' := ⟨h.os, h.tape, h.output, h.size, fun k hk => h.block k (by omega) (by omega)⟩
theorem Fr.alloc {rb B : Nat} {a w : World} (h : Fr rb B a w) (hB : B ≤ w.heap.size) (o : Obj) : Fr rb B a (w.alloc o) := h.trans (.of ((Below.refl _ _).alloc hB o))
theorem Fr.setCell {rb B : Nat} {a w : World} (h : Fr rb B a w) {p : Addr} (hp : B ≤ p.block) (u : Value) : Fr rb B a (w.setCell p u) := h.trans (.of ((Below.refl _ _).setCell hp u))
theorem Fr.put {rb B : Nat} {a w : World} (h : Fr rb B a w) (i : Nat) (u : Value) : Fr rb B a (w.setCell ⟨rb, i, none⟩ u) :=
  h.trans ⟨rfl, rfl, rfl, by simp [World.setCell], fun k _ hr => Below.heap_setCell _ _ _ _ hr⟩
theorem Fr.grown {rb B : Nat} {a w w' : World} {row : Option Nat} (h : Fr rb B a w) (hg : w.grownBy w' row) (hB : B ≤ w.heap.size) (hr : ∀ k, row = some k → B ≤ k) : Fr rb B a w' := h.trans (.of ((Below.refl _ _).grown hg hB hr))
theorem Fr.step {rb : Nat} {w w1 w2 : World} (h : Fr rb w.heap.size w w1) (h' : Fr rb w1.heap.size w1 w2) : Fr rb w.heap.size w w2 := h.trans (h'.mono h.size)
theorem Fr.cell {rb B : Nat} {w w' : World} (h : Fr rb B w w') {p : Addr} (hp : p.block < B) (hr : p.block ≠ rb) : w'.cell? p = w.cell? p := World.cell?_of_block (w := w) (h.block p.block hp hr)
theorem Fr.row {rb B g t : Nat} {w w' : World} {cs : Array Value} (h : Fr rb B w w') (hr : RowB w g t cs) (hg : g < B) (hn : g ≠ rb) : RowB w' g t cs := (h.block g hg hn).trans hr
theorem Fr.own {rb : Nat} {w w' : World} {base e size n : Nat} {v : Value} {xs : List Value} (hb : Fr rb w.heap.size w w') (h : w.ownsRow base e size v n xs) (hr : rb < base) : w'.ownsRow base e size v n xs := by
  have hlt := h.lt
  refine ⟨h.1, ?_⟩
  rcases h.2 with ⟨hv, hn⟩ | ⟨g, cap, cur, rfl, h1, h2, h3⟩
  · exact .inl ⟨hv, hn⟩
  · have := hlt g rfl
    exact .inr ⟨g, cap, cur, rfl, h1, (hb.block g this.2 (by omega)).trans h2, h3⟩

theorem bel1 (w : World) (o1 : Obj) : Below w.heap.size w (w.alloc o1) := (Below.refl _ _).alloc (Nat.le_refl _) _
namespace Ps
/-- Cells of nodes beside one another, with those below them, in blocks of P. -/
def FC (w : World) (P : Nat → Prop) : Fo → List Value → Prop
  | .nil, cs => cs = []
  | .cons h k r, cs => ∃ A cap cs', cs = [.int .i64 h.kind, .int .i64 h.fro, .int .i64 h.til, .string h.word, .int .i64 h.at_, .slice A k.len cap] ++ cs' ∧ k.len ≤ cap ∧
      (0 < k.len → ∃ (g o : Nat) (ck : List Value), A = some ⟨g, o, none⟩ ∧ P g ∧ g < w.heap.size ∧ (∀ j u, ck[j]? = some u → w.cell? ⟨g, o + j, none⟩ = some u) ∧ FC w P k ck) ∧ FC w P r cs'
/-- A slice's nodes. -/
def KV (w : World) (P : Nat → Prop) (k : Fo) (A : Option Addr) (cap : Nat) : Prop :=
  k.len ≤ cap ∧ (0 < k.len → ∃ (g o : Nat) (ck : List Value), A = some ⟨g, o, none⟩ ∧ P g ∧ g < w.heap.size ∧ (∀ j u, ck[j]? = some u → w.cell? ⟨g, o + j, none⟩ = some u) ∧ FC w P k ck)
theorem FC.cons {w : World} {P : Nat → Prop} {h : Hd} {k r : Fo} {A : Option Addr} {cap : Nat} {cs : List Value} (hk : KV w P k A cap) (hr : FC w P r cs) :
    FC w P (.cons h k r) ([.int .i64 h.kind, .int .i64 h.fro, .int .i64 h.til, .string h.word, .int .i64 h.at_, .slice A k.len cap] ++ cs) := by
  rw [FC]
  exact ⟨A, cap, cs, rfl, hk.1, hk.2, hr⟩
theorem FC.one {w : World} {P : Nat → Prop} {h : Hd} {k : Fo} {A : Option Addr} {cap : Nat} (hk : KV w P k A cap) :
    FC w P (.one h k) [.int .i64 h.kind, .int .i64 h.fro, .int .i64 h.til, .string h.word, .int .i64 h.at_, .slice A k.len cap] := by
  have := FC.cons (h := h) (r := .nil) (cs := []) hk (by rw [FC])
  exact this
/-- Memory in which the blocks of P stay. -/
theorem FC.keep {w w' : World} {P Q : Nat → Prop} (hs : w.heap.size ≤ w'.heap.size) (hb : ∀ g, P g → g < w.heap.size → w'.heap[g]? = w.heap[g]? ∧ Q g) : ∀ (f : Fo) (cs : List Value), FC w P f cs → FC w' Q f cs
  | .nil, cs, h => by rw [FC] at h ⊢; exact h
  | .cons hd k r, cs, h => by
    rw [FC] at h ⊢
    obtain ⟨A, cap, cs', e, hc, hk, hr⟩ := h
    refine ⟨A, cap, cs', e, hc, fun h0 => ?_, FC.keep hs hb r cs' hr⟩
    obtain ⟨g, o, ck, e1, h1, h2, h3, h4⟩ := hk h0
    obtain ⟨b1, b2⟩ := hb g h1 h2
    exact ⟨g, o, ck, e1, b2, Nat.lt_of_lt_of_le h2 hs, fun j u hu => (World.cell?_of_block (w := w) b1).trans (h3 j u hu), FC.keep hs hb k ck h4⟩
theorem KV.keep {w w' : World} {P Q : Nat → Prop} (hs : w.heap.size ≤ w'.heap.size) (hb : ∀ g, P g → g < w.heap.size → w'.heap[g]? = w.heap[g]? ∧ Q g) {k : Fo} {A : Option Addr} {cap : Nat} (h : KV w P k A cap) : KV w' Q k A cap := by
  refine ⟨h.1, fun h0 => ?_⟩
  obtain ⟨g, o, ck, e1, h1, h2, h3, h4⟩ := h.2 h0
  obtain ⟨b1, b2⟩ := hb g h1 h2
  exact ⟨g, o, ck, e1, b2, Nat.lt_of_lt_of_le h2 hs, fun j u hu => (World.cell?_of_block (w := w) b1).trans (h3 j u hu), FC.keep hs hb k ck h4⟩
theorem FC.app {w : World} {P : Nat → Prop} : ∀ (a : Fo) (ca : List Value) {b : Fo} {cb : List Value}, FC w P a ca → FC w P b cb → FC w P (a.app b) (ca ++ cb)
  | .nil, ca, b, cb, h, h' => by rw [FC] at h; subst h; exact h'
  | .cons hd k r, ca, b, cb, h, h' => by
    rw [FC] at h
    obtain ⟨A, cap, cs', e, hc, hk, hr⟩ := h
    rw [Fo.app, FC]
    exact ⟨A, cap, cs' ++ cb, by rw [e, List.append_assoc], hc, hk, FC.app r cs' hr h'⟩
theorem FC.len {w : World} {P : Nat → Prop} : ∀ (a : Fo) (ca : List Value), FC w P a ca → ca.length = a.len * 6
  | .nil, ca, h => by rw [FC] at h; subst h; rfl
  | .cons hd k r, ca, h => by
    rw [FC] at h
    obtain ⟨A, cap, cs', e, hc, hk, hr⟩ := h
    have := FC.len r cs' hr
    rw [e, Fo.len, List.length_append, this]
    simp
    omega
theorem KV.nil (w : World) (P : Nat → Prop) (A : Option Addr) (cap : Nat) : KV w P .nil A cap := ⟨Nat.zero_le _, fun h => by simp [Fo.len] at h⟩
/-- A row that is one's own holds nodes. -/
theorem KV.of_own {w : World} {base n cap : Nat} {P Q : Nat → Prop} {A : Option Addr} {k : Fo} {cs : List Value} (h : w.ownsRow base 25 6 (.slice A n cap) n cs) (hn : n = k.len) (hf : FC w P k cs) (hP : ∀ g, P g → Q g) (hb : ∀ g, base ≤ g → (Value.slice A n cap).ownBlock = some g → Q g) (hc : n ≤ cap) : KV w Q k A cap := by
  subst hn
  refine ⟨hc, fun h0 => ?_⟩
  have hlt := h.lt
  rcases h.2 with ⟨hv, hx⟩ | ⟨g, cap', cur, hv, h1, h2, h3⟩
  · omega
  · injection hv with e1 _ _
    subst e1
    have := (hlt g rfl)
    refine ⟨g, 0, cs, rfl, hb g this.1 rfl, this.2, fun j u hu => ?_, FC.keep (Nat.le_refl _) (fun g hg _ => ⟨rfl, hP g hg⟩) k cs hf⟩
    have := h.cells (g := g) rfl j u hu
    simp only [Addr.add] at this
    by_cases hj : j = 0 <;> simpa [hj] using this
/-- A block just made holds nodes. -/
theorem KV.new {w : World} {g : Nat} {P : Nat → Prop} {k : Fo} {cs : Array Value} (h : RowB w g 25 cs) (hf : FC w P k cs.toList) (hb : P g) : KV w P k (some ⟨g, 0, none⟩) k.len :=
  ⟨Nat.le_refl _, fun _ => ⟨g, 0, cs.toList, rfl, hb, h.lt, fun j u hu => by rw [Nat.zero_add, h.cell j]; simpa using hu, hf⟩⟩

/-- A reader, where its tokens lie. -/
structure Cx where
  rb : Nat
  A : Option Addr
  l : List Tok
  c : Nat
abbrev Cx.p (X : Cx) : Value := .pointer (some ⟨X.rb, 0, none⟩)
structure Wf (l : List Tok) : Prop where
  pos : 0 < l.length
  next : ∀ i (h : i < l.length), l[i].kind ≠ 0 → i + 1 < l.length
  le : l.length ≤ 4000
structure St (X : Cx) (w : World) (b : Int) : Prop where
  row : RowB w X.rb 87 #[.slice X.A X.l.length X.c, .int .i64 b]
  toks : ∃ g, X.A = some ⟨g, 0, none⟩ ∧ g < X.rb ∧ ∀ i (h : i < X.l.length),
    w.cell? ⟨g, i * 4, none⟩ = some (.int .i64 X.l[i].kind) ∧ w.cell? ⟨g, i * 4 + 1, none⟩ = some (.int .i64 X.l[i].at_) ∧ w.cell? ⟨g, i * 4 + 2, none⟩ = some (.string X.l[i].lead) ∧ w.cell? ⟨g, i * 4 + 3, none⟩ = some (.string X.l[i].text)
  wf : Wf X.l
  cap : X.l.length ≤ X.c
  bl : b < X.l.length
theorem St.below {X : Cx} {w w' : World} {b : Int} (h : St X w b) (hb : Below w.heap.size w w') : St X w' b := by
  have hl := h.row.lt
  refine ⟨h.row.below hb hl, ?_, h.wf, h.cap, h.bl⟩
  obtain ⟨g, e, hg, hc⟩ := h.toks
  refine ⟨g, e, hg, fun i hi => ?_⟩
  obtain ⟨c0, c1, c2, c3⟩ := hc i hi
  have hg' : g < w.heap.size := by omega
  exact ⟨(hb.cell (p := ⟨g, i * 4, none⟩) hg').trans c0, (hb.cell (p := ⟨g, i * 4 + 1, none⟩) hg').trans c1, (hb.cell (p := ⟨g, i * 4 + 2, none⟩) hg').trans c2, (hb.cell (p := ⟨g, i * 4 + 3, none⟩) hg').trans c3⟩
theorem St.alloc {X : Cx} {w : World} {b : Int} (h : St X w b) (o : Obj) : St X (w.alloc o) b := h.below ((Below.refl _ _).alloc (Nat.le_refl _) o)
theorem St.far {X : Cx} {w : World} {b : Int} (h : St X w b) {p : Addr} (hp : X.rb < p.block) (u : Value) : St X (w.setCell p u) b := by
  refine ⟨h.row.far (by omega) u, ?_, h.wf, h.cap, h.bl⟩
  obtain ⟨g, e, hg, hc⟩ := h.toks
  refine ⟨g, e, hg, fun i hi => ?_⟩
  obtain ⟨c0, c1, c2, c3⟩ := hc i hi
  have hb : Below (X.rb + 1) w (w.setCell p u) := (Below.refl _ _).setCell hp u
  have hg' : g < X.rb + 1 := by omega
  exact ⟨(hb.cell (p := ⟨g, i * 4, none⟩) hg').trans c0, (hb.cell (p := ⟨g, i * 4 + 1, none⟩) hg').trans c1, (hb.cell (p := ⟨g, i * 4 + 2, none⟩) hg').trans c2, (hb.cell (p := ⟨g, i * 4 + 3, none⟩) hg').trans c3⟩
theorem St.grown {X : Cx} {w w' : World} {b : Int} {row : Option Nat} (h : St X w b) (hg : w.grownBy w' row) (hr : ∀ k, row = some k → X.rb < k) : St X w' b := by
  have hl := h.row.lt
  have hb : Below (X.rb + 1) w w' := (Below.refl _ _).grown hg (by omega) (fun k hk => hr k hk)
  refine ⟨h.row.below hb (by omega), ?_, h.wf, h.cap, h.bl⟩
  obtain ⟨g, e, hg, hc⟩ := h.toks
  refine ⟨g, e, hg, fun i hi => ?_⟩
  obtain ⟨c0, c1, c2, c3⟩ := hc i hi
  have hg' : g < X.rb + 1 := by omega
  exact ⟨(hb.cell (p := ⟨g, i * 4, none⟩) hg').trans c0, (hb.cell (p := ⟨g, i * 4 + 1, none⟩) hg').trans c1, (hb.cell (p := ⟨g, i * 4 + 2, none⟩) hg').trans c2, (hb.cell (p := ⟨g, i * 4 + 3, none⟩) hg').trans c3⟩
/-- The reader can't go on. -/
theorem St.stop {X : Cx} {w : World} {b : Int} (h : St X w b) (b' : Int) (hbl : b' < X.l.length) : St X (w.setCell ⟨X.rb, 1, none⟩ (.int .i64 b')) b' := by
  have hr := h.row.put 1 (.int .i64 b')
  refine ⟨hr, ?_, h.wf, h.cap, hbl⟩
  obtain ⟨g, e, hg, hc⟩ := h.toks
  refine ⟨g, e, hg, fun i hi => ?_⟩
  obtain ⟨c0, c1, c2, c3⟩ := hc i hi
  have hb : Below X.rb w (w.setCell ⟨X.rb, 1, none⟩ (.int .i64 b')) := (Below.refl _ _).setCell (p := ⟨X.rb, 1, none⟩) (Nat.le_refl _) _
  exact ⟨(hb.cell (p := ⟨g, i * 4, none⟩) hg).trans c0, (hb.cell (p := ⟨g, i * 4 + 1, none⟩) hg).trans c1, (hb.cell (p := ⟨g, i * 4 + 2, none⟩) hg).trans c2, (hb.cell (p := ⟨g, i * 4 + 3, none⟩) hg).trans c3⟩
end Ps
end Go.Proofs.Ytnefnnoleeeedaa

/- Where an append lays its row. -/
namespace Go.Proofs.Ytnefnnoleeeedaa
open Go.RowKit

/-- Where an append lays its row: where it lay, or in a new block. -/
theorem append_at {w : World} {P : Program} (base : Nat) (t ty e : TypeId) (i : TypeInfo) (z : Value) (ht : P.underlying t = some (.slice e)) (hi : P.info? e = some i) (hz : i.zero = some z) (hzs : z.cells.size = i.size) (hsz : 0 < i.size)
    (v : Value) (n : Nat) (xs : List Value) (hown : w.ownsRow base e i.size v n xs)
    (a : Addr) (m c : Nat) (news : List Value) (hl : news.length = m * i.size) (hnews : ∀ j u, news[j]? = some u → w.cell? (a.add j) = some u) (h1 : ∀ u ∈ news, u.oneCell' = true)
    (h63 : n + m ≤ maxLen) (hbytes : (n + m) * i.bytes ≤ 140737488355328) (v' : Value) (w' : World)
    (hr : (Builtin.append_ #[t, t] ty #[v, .slice (some a) m c]).run P w = .ok v' w') : ∀ k, v'.ownBlock = some k → v.ownBlock = some k ∨ w.heap.size ≤ k := by
  intro k hk
  have hsmall : n + m ≤ 9223372036854775807 := by simp only [maxLen] at h63; omega
  rcases hown.2 with ⟨rfl, rfl⟩ | ⟨g, cap, cur, rfl, hbg, hg, hnc, hcm, hcs, htake⟩
  · have hx : xs = [] := List.eq_nil_of_length_eq_zero (by simpa using hown.1)
    subst hx
    obtain ⟨v2, w2, h2, h3, _, _⟩ := run_append_own (P := P) w w.heap.size t ty e i z i.size i.bytes ht hi hz rfl rfl hzs hsz (.slice none 0 0) 0 [] (World.ownsRow_nil w w.heap.size e i.size) a m c news hl hnews h1 h63 hbytes (Nat.le_refl _)
    rw [hr] at h2
    injection h2 with e1 e2
    subst e1 e2
    exact .inr (h3.lt k hk).1
  · by_cases hroom : n + m ≤ cap
    · have hfit : n * i.size + news.length ≤ cur.size := by rw [hl, hcs, ← Nat.add_mul]; exact Nat.mul_le_mul_right _ hroom
      have h2 := run_append_room (P := P) w t ty e i ht hi g n cap cur hg a m c news hl hnews h1 hroom hfit
      rw [hr] at h2
      injection h2 with e1 e2
      rw [e1] at hk
      left
      exact hk
    · have holds : ∀ j u, xs[j]? = some u → w.cell? ((⟨g, 0, none⟩ : Addr).add j) = some u := hown.cells (g := g) rfl
      have h2 := run_append_grow (P := P) w t ty e i z ht hi hz ⟨g, 0, none⟩ n cap xs hown.1 holds a m c news hl hnews (by omega) (by omega) (growslice_fits (by omega) hbytes)
      rw [hr] at h2
      injection h2 with e1 e2
      rw [e1] at hk
      simp [Value.ownBlock] at hk
      omega
theorem wpList_append_at {w : World} {P : Program} {ops : Array Oper} {rest : List Oper} {o : Oper} {a : Act} {Q : Exit → Act → World → Prop} (hgd : o.guard = none) (s x : Operand) (t : TypeId)
    (ho : o.op = .call { callee := .builtin .append, args := #[s, x], argTypes := #[t, t] })
    (base : Nat) (e : TypeId) (i : TypeInfo) (z : Value) (size bytes : Nat) (ht : P.underlying t = some (.slice e)) (hi : P.info? e = some i) (hz : i.zero = some z)
    (hsize : i.size = size) (hby : i.bytes = bytes) (hzs : z.cells.size = size) (hsz : 0 < size)
    (v : Value) (n : Nat) (xs : List Value) (hs : a.eval s = v) (hown : w.ownsRow base e size v n xs)
    (ad : Addr) (m c : Nat) (news : List Value) (hx : a.eval x = .slice (some ad) m c) (hl : news.length = m * size) (hnews : ∀ j u, news[j]? = some u → w.cell? (ad.add j) = some u) (h1 : ∀ u ∈ news, u.oneCell' = true)
    (h63 : n + m ≤ maxLen) (hbytes : (n + m) * bytes ≤ 140737488355328) (hbase : base ≤ w.heap.size)
    (h : ∀ v' w', w'.ownsRow base e size v' (n + m) (xs ++ news) → w.grownBy w' v.ownBlock → (∀ k, v'.ownBlock = some k → v.ownBlock = some k ∨ w.heap.size ≤ k) → wpList P ops Q rest (a.put o.dst v') w') : wpList P ops Q (o :: rest) a w := by
  refine wpList_plain hgd fun K hK => ?_
  obtain ⟨v', w', hr, h2, h3, h4⟩ := run_append_own (P := P) w base t o.type e i z size bytes ht hi hz hsize hby hzs hsz v n xs hown ad m c news hl hnews h1 h63 hbytes hbase
  subst hsize hby
  have h5 := append_at base t o.type e i z ht hi hz hzs hsz v n xs hown ad m c news hl hnews h1 h63 hbytes v' w' hr
  unfold Oper.wp execOp
  simp only [ho, resolve, invoke, builtin, Sem.run_bind, Sem.run_pure, Result.andThen_ok, List.map_toArray, List.map_cons, List.map_nil, hs, hx, hr]
  exact hK _ _ (h v' w' h2 h3 h5)

namespace Ps
theorem KV.new_ {w : World} {P : Nat → Prop} {k : Fo} {A : Option Addr} {cap lo : Nat} (h : KV w P k A cap) (hP : ∀ g, P g → lo ≤ g) : KV w (fun g => lo ≤ g) k A cap := h.keep (Nat.le_refl _) (fun g hg _ => ⟨rfl, hP g hg⟩)
theorem six {c : Array Value} (hc : c.size = 6) (u0 u1 u2 u3 u4 u5 : Value) : (((((c.setIfInBounds 0 u0).setIfInBounds 1 u1).setIfInBounds 2 u2).setIfInBounds 3 u3).setIfInBounds 4 u4).setIfInBounds 5 u5 = #[u0, u1, u2, u3, u4, u5] := by
  obtain ⟨l⟩ := c
  match l, hc with
  | [_, _, _, _, _, _], _ => rfl
theorem cells_nd (w : World) (a b c d e f : Value) (j : Nat) (u : Value) (hj : [a, b, c, d, e, f][j]? = some u) : (w.alloc (.cells #[a, b, c, d, e, f] 25)).cell? ((⟨w.heap.size, 0, none⟩ : Addr).add j) = some u :=
  World.news_of_block (heap_alloc_new w (.cells #[a, b, c, d, e, f] 25)) j u hj
theorem one_nd (h : Hd) (A : Option Addr) (n c : Nat) : ∀ u ∈ [Value.int .i64 h.kind, .int .i64 h.fro, .int .i64 h.til, .string h.word, .int .i64 h.at_, .slice A n c], u.oneCell' = true := by
  simp [Value.oneCell']
theorem info25 : (Try.prog.info? 25).map (fun i => (i.zero, i.size, i.bytes)) = some (some (.agg #[.int .i64 0, .int .i64 0, .int .i64 0, .string ⟨#[]⟩, .int .i64 0, .slice none 0 0]), 6, 72) := by kernel_rfl
end Ps
end Go.Proofs.Ytnefnnoleeeedaa

/- Mathematics: tokens that are no end have one behind them. -/
namespace Go.Proofs.Ytnefnnoleeeedaa
open Go.RowKit
namespace Ps
theorem isM_next {l : List Tok} (h : Wf l) {i : Nat} {x : List UInt8} (hi : isM l i x = true) : i + 1 < l.length := by
  unfold isM at hi
  by_cases hl : i < l.length
  · rw [List.getElem?_eq_getElem hl] at hi
    simp only [Bool.and_eq_true, Bool.or_eq_true, beq_iff_eq] at hi
    exact h.next i hl (by omega)
  · rw [List.getElem?_eq_none (by omega)] at hi
    cases hi
theorem kindAt_next {l : List Tok} (h : Wf l) {i : Nat} (hi : kindAt l i ≠ 0) : i + 1 < l.length := by
  unfold kindAt at hi
  by_cases hl : i < l.length
  · rw [List.getElem?_eq_getElem hl] at hi
    exact h.next i hl hi
  · rw [List.getElem?_eq_none (by omega)] at hi
    exact absurd rfl hi
theorem wantM_lt {l : List Tok} (h : Wf l) {b : Int} {i : Nat} {x : List UInt8} (hi : i < l.length) : (wantM l b i x).1 < l.length := by
  unfold wantM
  split
  · exact hi
  · split
    · rename_i h1; exact isM_next h h1
    · exact hi
theorem wordM_lt {l : List Tok} (h : Wf l) {b : Int} {hd : Hd} {i : Nat} (hi : i < l.length) : (wordM l b hd i).2.1 < l.length := by
  unfold wordM
  split
  · exact hi
  · split
    · rename_i h1; exact kindAt_next h (by omega)
    · exact hi
theorem kindAt_get {l : List Tok} {i : Nat} (h : i < l.length) : kindAt l i = l[i].kind := by unfold kindAt; rw [List.getElem?_eq_getElem h]; rfl
theorem textAt_get {l : List Tok} {i : Nat} (h : i < l.length) : textAt l i = l[i].text := by unfold textAt; rw [List.getElem?_eq_getElem h]; rfl

end Ps
end Go.Proofs.Ytnefnnoleeeedaa

/- Contracts: the document's reader: what stands at a token, what is wanted there. -/
namespace Go.Proofs.Ytnefnnoleeeedaa
open Go.RowKit
namespace Ps

set_option maxHeartbeats 2000000 in
theorem is_any (X : Cx) (b : Int) (i : Nat) (x : ByteArray) (w : World) (hS : St X w b) (hi : i < X.l.length) :
    Calls Try.prog 53 #[X.p, .int .i64 i, .string x] w fun e w' => e = .returned (.bool (isM X.l i x.data.toList)) ∧ Below w.heap.size w w' := by
  have hrb := hS.row.lt
  have hz : isM X.l i x.data.toList = ((X.l[i].kind == 2 || X.l[i].kind == 5) && (X.l[i].text.data.toList == x.data.toList)) := by
    unfold isM; rw [List.getElem?_eq_getElem hi]
  obtain ⟨z, hzz⟩ : ∃ z, z = isM X.l i x.data.toList := ⟨_, rfl⟩
  rw [← hzz] at hz ⊢
  obtain ⟨g, eg, lg, hc⟩ := hS.toks
  obtain ⟨c0, c1, c2, c3⟩ := hc i hi
  have rr := hS.row.cell
  have hcap := hS.cap
  obtain ⟨rbk, A, l, c⟩ := X
  dsimp only at *
  subst eg
  generalize l[i] = t at *
  obtain ⟨kd, a, ld, tx⟩ := t
  dsimp only at *
  have hlg : g < w.heap.size := by omega
  have HZ := Lib.hid hz
  have hil : (i : Int) < (l.length : Int) := by omega
  clear hzz hc hS hz
  by_cases h2 : kd = 2
  · subst h2
    go_enter Try.func53, Try.ntmps53
    go_wp2_with fail
    go_ret
    exact ⟨rb (by rw [HZ.out]; simp [ByteArray.toList_eq]), bel1 _ _⟩
  · by_cases h5 : kd = 5
    · subst h5
      go_enter Try.func53, Try.ntmps53
      go_wp2_with fail
      go_ret
      exact ⟨rb (by rw [HZ.out]; simp [ByteArray.toList_eq]), bel1 _ _⟩
    · have d1 : ((kd : Int) == 2) = false := by rw [beq_eq_false_iff_ne]; omega
      have d2 : ((kd : Int) == 5) = false := by rw [beq_eq_false_iff_ne]; omega
      have HZ0 : Hid (z = false) := by
        unfold Hid; rw [HZ.out]; simp [h2, h5]
      clear HZ h2 h5
      go_enter Try.func53, Try.ntmps53
      go_wp2_with fail
      go_ret
      exact ⟨rb (by rw [HZ0.out]; try simp), bel1 _ _⟩

/-- What a call of the reader that answers a place comes to. -/
def AtP (X : Cx) (w : World) (r : Nat × Int) (e : Ending) (w' : World) : Prop :=
  e = .returned (.int .i64 r.1) ∧ St X w' r.2 ∧ Fr X.rb w.heap.size w w' ∧ r.1 < X.l.length

set_option maxHeartbeats 2000000 in
theorem want_any (X : Cx) (b : Int) (i : Nat) (x : ByteArray) (w : World) (hS : St X w b) (hi : i < X.l.length) :
    Calls Try.prog 83 #[X.p, .int .i64 i, .string x] w fun e w' => AtP X w (wantM X.l b i x.data.toList) e w' := by
  have HS := Lib.hid hS
  have hlt := wantM_lt hS.wf (b := b) (x := x.data.toList) hi
  have hle := hS.wf.le
  have rr := hS.row.cell
  have rf := hS.row.thaw
  have c := is_any X b i x w hS hi
  by_cases hb : 0 ≤ b
  · have hb1 : ¬ b < 0 := by omega
    have hb2 : b ≥ 0 := hb
    have hw : wantM X.l b i x.data.toList = (i, b) := by unfold wantM; rw [if_pos hb]
    rw [hw]
    clear hS hb c hlt hw
    go_enter Try.func83, Try.ntmps83
    go_wp2_with fail
    go_ret
    exact ⟨rfl, HS.out, Fr.refl _ _ _, hi⟩
  · have hb1 : b < 0 := by omega
    have hb2 : ¬ b ≥ 0 := by omega
    cases hz : isM X.l i x.data.toList
    · have hw : wantM X.l b i x.data.toList = (i, (i : Int)) := by unfold wantM; rw [if_neg hb, hz, if_neg (by simp)]
      rw [hw]
      rw [hz] at c
      have C := Lib.hid c
      clear hS hb c hlt hw hz
      go_enter Try.func83, Try.ntmps83
      go_wp2_with fail
      refine C.out.mono ?_
      rintro e w1 ⟨rfl, hbl⟩
      have HS1 := Lib.hid (HS.out.below hbl)
      have HF := Lib.hid (Fr.of (rb := X.rb) hbl)
      have rr1 := HS1.out.row.cell
      have rf1 := HS1.out.row.thaw
      have hn : (i : Int) ≥ 0 := by omega
      clear rr rf hbl hb1 hb2
      go_wp2_with fail
      go_ret
      exact ⟨rfl, HS1.out.stop _ (by omega), HF.out.put 1 _, hi⟩
    · have hw : wantM X.l b i x.data.toList = (i + 1, b) := by unfold wantM; rw [if_neg hb, hz, if_pos rfl]
      rw [hw] at hlt ⊢
      rw [hz] at c
      have C := Lib.hid c
      have HL := Lib.hid hlt
      clear hS hb c hlt hw hz
      go_enter Try.func83, Try.ntmps83
      go_wp2_with fail
      refine C.out.mono ?_
      rintro e w1 ⟨rfl, hbl⟩
      have HS1 := Lib.hid (HS.out.below hbl)
      have HF := Lib.hid (Fr.of (rb := X.rb) hbl)
      have rr1 := HS1.out.row.cell
      have rf1 := HS1.out.row.thaw
      have e1 : IntKind.i64.wrap ((i : Int) + 1) = (i : Int) + 1 := by rw [IntKind.wrap_i64]; omega
      clear rr rf hbl
      go_wp2_with fail
      go_ret
      exact ⟨ri (by simp), HS1.out, HF.out, HL.out⟩

/-- A node's value. -/
abbrev nv (h : Hd) (A : Option Addr) (n cap : Nat) : Value := .agg #[.int .i64 h.kind, .int .i64 h.fro, .int .i64 h.til, .string h.word, .int .i64 h.at_, .slice A n cap]
set_option maxHeartbeats 2000000 in
theorem ended_any (h : Hd) (A0 : Option Addr) (n0 c0 : Nat) (tl_ : Nat) (A : Option Addr) (n c : Nat) (w : World) :
    Calls Try.prog 56 #[nv h A0 n0 c0, .int .i64 tl_, .slice A n c] w fun e w' => e = .returned (nv { h with til := tl_ } A n c) ∧ Below w.heap.size w w' := by
  obtain ⟨kd, fr, t0, wd, at0⟩ := h
  go_enter Try.func56, Try.ntmps56
  go_wp2
  refine bodyPost_ret ?_ rfl ⟨rfl, ?_⟩
  · simp [results, Try.results56, go_sem]
  · exact (bel1 _ _).alloc (by simp) _
/-- What word answers. -/
def WordP (X : Cx) (w : World) (r : Hd × Nat × Int) (A : Option Addr) (n c : Nat) (e : Ending) (w' : World) : Prop :=
  e = .returned (.tuple #[nv r.1 A n c, .int .i64 r.2.1]) ∧ St X w' r.2.2 ∧ Fr X.rb w.heap.size w w' ∧ r.2.1 < X.l.length
set_option maxHeartbeats 4000000 in
theorem word_any (X : Cx) (b : Int) (h : Hd) (A : Option Addr) (n c : Nat) (i : Nat) (w : World) (hS : St X w b) (hi : i < X.l.length) :
    Calls Try.prog 82 #[X.p, nv h A n c, .int .i64 i] w fun e w' => WordP X w (wordM X.l b h i) A n c e w' := by
  have HS := Lib.hid hS
  have hrb := hS.row.lt
  have hlt := wordM_lt hS.wf (b := b) (hd := h) hi
  have hle := hS.wf.le
  have rr := hS.row.cell
  have rf := hS.row.thaw
  obtain ⟨kd, fr, t0, wd, at0⟩ := h
  have RA := Lib.hid (RowB.new w 25 #[.int .i64 kd, .int .i64 fr, .int .i64 t0, .string wd, .int .i64 at0, .slice A n c])
  have S1 := Lib.hid ((hS.alloc (.cells #[.int .i64 kd, .int .i64 fr, .int .i64 t0, .string wd, .int .i64 at0, .slice A n c] 25)).alloc (.cells #[.int .i64 0, .int .i64 0, .int .i64 0, .string ⟨#[]⟩, .int .i64 0, .slice none 0 0] 25))
  by_cases hb : 0 ≤ b
  · have hb1 : ¬ b < 0 := by omega
    have hb2 : b ≥ 0 := hb
    have hw : wordM X.l b ⟨kd, fr, t0, wd, at0⟩ i = (⟨kd, fr, t0, wd, at0⟩, i, b) := by unfold wordM; rw [if_pos hb]
    rw [hw]
    clear hS hb hlt hw
    go_enter Try.func82, Try.ntmps82
    go_wp2
    refine bodyPost_ret ?_ rfl ⟨rfl, ?_, ?_, hi⟩
    · simp [results, Try.results82, go_sem]
    · exact (HS.out.alloc _).alloc _
    · exact Fr.of ((bel1 _ _).alloc (by simp) _)
  · have hb1 : b < 0 := by omega
    have hb2 : ¬ b ≥ 0 := by omega
    obtain ⟨g, eg, lg, hc⟩ := hS.toks
    obtain ⟨c0, c1, c2, c3⟩ := hc i hi
    have hcap := hS.cap
    have hkg := kindAt_get hi
    have htg := textAt_get hi
    have hil : (i : Int) < (X.l.length : Int) := by omega
    have hlg : g < w.heap.size := by omega
    by_cases hk : X.l[i].kind = 1
    · have hw : wordM X.l b ⟨kd, fr, t0, wd, at0⟩ i = (⟨kd, fr, t0, X.l[i].text, i⟩, i + 1, b) := by
        unfold wordM; rw [if_neg hb, hkg, if_pos hk, htg]
      have d1 : ((X.l[i].kind : Int) == 1) = true := by rw [beq_iff_eq]; omega
      have d2 : ((X.l[i].kind : Int) != 1) = false := by rw [bne_eq_false_iff_eq]; omega
      rw [hw] at hlt ⊢
      have HL := Lib.hid hlt
      have e1 : IntKind.i64.wrap ((i : Int) + 1) = (i : Int) + 1 := by rw [IntKind.wrap_i64]; omega
      rw [eg] at rr
      generalize X.l[i] = t at *
      obtain ⟨tk, ta, tl_, tx⟩ := t
      dsimp only at *
      clear hS hb hlt hw hk hkg htg hc S1 RA
      go_enter Try.func82, Try.ntmps82
      go_wp2
      refine bodyPost_ret ?_ rfl ⟨rfl, ?_, ?_, HL.out⟩
      · simp [results, Try.results82, go_sem]
      · exact (HS.out.alloc _).alloc _
      · exact Fr.of ((bel1 _ _).alloc (by simp) _)
    · have hw : wordM X.l b ⟨kd, fr, t0, wd, at0⟩ i = (⟨kd, fr, t0, wd, at0⟩, i, (i : Int)) := by
        unfold wordM; rw [if_neg hb, hkg, if_neg hk]
      have d1 : ((X.l[i].kind : Int) == 1) = false := by rw [beq_eq_false_iff_ne]; omega
      have d2 : ((X.l[i].kind : Int) != 1) = true := by rw [bne_iff_ne]; omega
      rw [hw]
      have hn : (i : Int) ≥ 0 := by omega
      rw [eg] at rr
      generalize X.l[i] = t at *
      obtain ⟨tk, ta, tl_, tx⟩ := t
      dsimp only at *
      clear hS hb hlt hw hk hkg htg hc S1 RA hb2
      go_enter Try.func82, Try.ntmps82
      go_wp2
      refine bodyPost_ret ?_ rfl ⟨rfl, ?_, ?_, hi⟩
      · simp [results, Try.results82, go_sem]
      · exact ((HS.out.stop _ (by omega)).alloc _).alloc _
      · exact (((Fr.refl _ _ _).put 1 _).alloc (by simp) _).alloc (by simp) _
end Ps
end Go.Proofs.Ytnefnnoleeeedaa

/- What a call of the reader holds while it goes on: the reader, blocks of its own, nodes, a list of kids. -/
namespace Go.Proofs.Ytnefnnoleeeedaa
open Go.RowKit

namespace Ps
abbrev Row := Nat × TypeId × Array Value
abbrev Kid := Fo × Option Addr × Nat
/-- Blocks that nodes may lie in: new ones, none of the rows, not the list that grows. -/
def PB (lo : Nat) (Rs : List Row) (v : Value) (g : Nat) : Prop := lo ≤ g ∧ (∀ p ∈ Rs, p.1 ≠ g) ∧ v.ownBlock ≠ some g
structure LS (X : Cx) (w0 w : World) (b : Int) (Rs : List Row) (Ks : List Kid) (v : Value) (K : Fo) : Prop where
  st : St X w b
  fr : Fr X.rb w0.heap.size w0 w
  rows : ∀ p ∈ Rs, RowB w p.1 p.2.1 p.2.2 ∧ w0.heap.size ≤ p.1
  nd : (Rs.map Prod.fst).Nodup
  kvs : ∀ k ∈ Ks, KV w (PB w0.heap.size Rs v) k.1 k.2.1 k.2.2
  own : ∃ cs, w.ownsRow w0.heap.size 25 6 v K.len cs ∧ FC w (PB w0.heap.size Rs v) K cs
  ownr : ∀ p ∈ Rs, v.ownBlock ≠ some p.1
  rb : X.rb < w0.heap.size
variable {X : Cx} {w0 w w' : World} {b : Int} {Rs : List Row} {Ks : List Kid} {v : Value} {K : Fo}
theorem LS.start (h : St X w b) : LS X w w b [] [] (.slice none 0 0) .nil :=
  ⟨h, Fr.refl _ _ _, (by simp), (by simp), (by simp), ⟨[], World.ownsRow_nil _ _ _ _, by rw [FC]⟩, (by simp), h.row.lt⟩
theorem LS.size (h : LS X w0 w b Rs Ks v K) : w0.heap.size ≤ w.heap.size := h.fr.size
/-- Behind what turns no block of this call's. -/
theorem LS.step (h : LS X w0 w b Rs Ks v K) {b' : Int} (hS : St X w' b') (hF : Fr X.rb w.heap.size w w') : LS X w0 w' b' Rs Ks v K := by
  have hrb := h.rb
  have hb : ∀ g, PB w0.heap.size Rs v g → g < w.heap.size → w'.heap[g]? = w.heap[g]? ∧ PB w0.heap.size Rs v g := fun g hg hl => ⟨hF.block g hl (by have := hg.1; omega), hg⟩
  refine ⟨hS, h.fr.trans (hF.mono h.size), fun p hp => ?_, h.nd, fun k hk => (h.kvs k hk).keep hF.size hb, ?_, h.ownr, hrb⟩
  · obtain ⟨r1, r2⟩ := h.rows p hp
    exact ⟨hF.row r1 r1.lt (by omega), r2⟩
  · obtain ⟨cs, o1, o2⟩ := h.own
    exact ⟨cs, hF.own o1 hrb, o2.keep hF.size hb⟩
/-- Behind a block that is nobody's. -/
theorem LS.other (h : LS X w0 w b Rs Ks v K) (hb : Below w.heap.size w w') : LS X w0 w' b Rs Ks v K := h.step (h.st.below hb) (.of hb)
/-- A block of its own. -/
theorem LS.alloc (h : LS X w0 w b Rs Ks v K) (g0 : Nat) (hg0 : g0 = w.heap.size) (t : TypeId) (c : Array Value) : LS X w0 (w.alloc (.cells c t)) b ((g0, t, c) :: Rs) Ks v K := by
  subst hg0
  have h' := h.other (bel1 w (.cells c t))
  have hsz := h.size
  have hlt : ∀ p ∈ Rs, p.1 < w.heap.size := fun p hp => (h.rows p hp).1.lt
  have hP : ∀ g, PB w0.heap.size Rs v g → g < w.heap.size → PB w0.heap.size ((w.heap.size, t, c) :: Rs) v g := fun g hg hl => ⟨hg.1, fun p hp => by
    rcases List.mem_cons.1 hp with rfl | hp
    · exact Nat.ne_of_gt hl
    · exact hg.2.1 p hp, hg.2.2⟩
  have hbk : ∀ g, PB w0.heap.size Rs v g → g < w.heap.size → (w.alloc (.cells c t)).heap[g]? = w.heap[g]? ∧ PB w0.heap.size ((w.heap.size, t, c) :: Rs) v g := fun g hg hl => ⟨Below.heap_alloc _ _ _ hl, hP g hg hl⟩
  refine ⟨h'.st, h'.fr, fun p hp => ?_, ?_, fun k hk => (h.kvs k hk).keep (by simp) hbk, ?_, fun p hp => ?_, h.rb⟩
  · rcases List.mem_cons.1 hp with rfl | hp
    · exact ⟨RowB.new w t c, hsz⟩
    · exact h'.rows p hp
  · rw [List.map_cons, List.nodup_cons]
    refine ⟨fun hm => ?_, h.nd⟩
    obtain ⟨p, hp, e⟩ := List.mem_map.1 hm
    have := hlt p hp
    dsimp only at e
    omega
  · obtain ⟨cs, o1, o2⟩ := h.own
    exact ⟨cs, o1.alloc _, o2.keep (by simp) hbk⟩
  · rcases List.mem_cons.1 hp with rfl | hp
    · intro e
      obtain ⟨cs, o1, _⟩ := h.own
      have := (o1.lt _ e).2
      dsimp only at this
      omega
    · exact h.ownr p hp
/-- Nodes that are new. -/
theorem LS.kid (h : LS X w0 w b Rs Ks v K) {b' : Int} (hS : St X w' b') (hF : Fr X.rb w.heap.size w w') {k : Fo} {A : Option Addr} {cap : Nat} (hk : KV w' (fun g => w.heap.size ≤ g) k A cap) : LS X w0 w' b' Rs ((k, A, cap) :: Ks) v K := by
  have h' := h.step hS hF
  have hsz := h.size
  refine ⟨h'.st, h'.fr, h'.rows, h'.nd, fun x hx => ?_, h'.own, h'.ownr, h'.rb⟩
  rcases List.mem_cons.1 hx with rfl | hx
  · refine hk.keep (Nat.le_refl _) (fun g hg _ => ⟨rfl, by omega, fun p hp e => ?_, fun e => ?_⟩)
    · have := (h.rows p hp).1.lt; omega
    · obtain ⟨cs, o1, _⟩ := h.own
      have := (o1.lt _ e).2
      omega
  · exact h'.kvs x hx
/-- Nodes laid beside one another in a new block. -/
theorem LS.slice (h : LS X w0 w b Rs Ks v K) (g0 : Nat) (hg0 : g0 = w.heap.size) {k : Fo} {cs : Array Value} (hf : FC w (PB w0.heap.size Rs v) k cs.toList) : LS X w0 (w.alloc (.cells cs 25)) b Rs ((k, some ⟨g0, 0, none⟩, k.len) :: Ks) v K := by
  subst hg0
  have h' := h.other (bel1 w (.cells cs 25))
  have hsz := h.size
  refine ⟨h'.st, h'.fr, h'.rows, h'.nd, fun x hx => ?_, h'.own, h'.ownr, h'.rb⟩
  rcases List.mem_cons.1 hx with rfl | hx
  · refine KV.new (RowB.new w 25 cs) (hf.keep (by simp) (fun g hg hl => ⟨Below.heap_alloc _ _ _ hl, hg⟩)) ⟨hsz, fun p hp e => ?_, fun e => ?_⟩
    · have := (h.rows p hp).1.lt; omega
    · obtain ⟨cs', o1, _⟩ := h.own
      have := (o1.lt _ e).2
      omega
  · exact h'.kvs x hx
/-- A store into a block of its own. -/
theorem LS.set (h : LS X w0 w b Rs Ks v K) (n : Nat) {g : Nat} {t : TypeId} {c : Array Value} (hn : Rs[n]? = some (g, t, c)) (i : Nat) (u : Value) : LS X w0 (w.setCell ⟨g, i, none⟩ u) b (Rs.set n (g, t, c.setIfInBounds i u)) Ks v K := by
  have hrb := h.rb
  obtain ⟨hlt, hg⟩ := List.getElem?_eq_some_iff.1 hn
  obtain ⟨r1, r2⟩ := h.rows (g, t, c) (by rw [← hg]; exact List.getElem_mem hlt)
  dsimp only at r1 r2
  have hfst : (Rs.set n (g, t, c.setIfInBounds i u)).map Prod.fst = Rs.map Prod.fst := by
    rw [List.map_set]
    apply List.ext_getElem (by simp)
    intro j h1 h2
    rw [List.getElem_set]
    split
    · rename_i e; subst e; simp [hg]
    · rfl
  have hmem : ∀ p ∈ Rs.set n (g, t, c.setIfInBounds i u), ∃ q ∈ Rs, q.1 = p.1 := fun p hp => by
    have : p.1 ∈ (Rs.set n (g, t, c.setIfInBounds i u)).map Prod.fst := List.mem_map_of_mem hp
    rw [hfst] at this
    exact List.mem_map.1 this
  have hgm : (g, t, c) ∈ Rs := by rw [← hg]; exact List.getElem_mem hlt
  have hP : ∀ g', PB w0.heap.size Rs v g' → g' < w.heap.size → (w.setCell ⟨g, i, none⟩ u).heap[g']? = w.heap[g']? ∧ PB w0.heap.size (Rs.set n (g, t, c.setIfInBounds i u)) v g' := fun g' hg' _ => by
    refine ⟨Below.heap_setCell _ _ _ _ (fun e => hg'.2.1 _ hgm e.symm), hg'.1, fun p hp => ?_, hg'.2.2⟩
    obtain ⟨q, hq, e⟩ := hmem p hp
    rw [← e]; exact hg'.2.1 q hq
  refine ⟨h.st.far (by dsimp only; omega) u, h.fr.setCell (by dsimp only; omega) u, fun p hp => ?_, by rw [hfst]; exact h.nd, fun k hk => (h.kvs k hk).keep (by simp [World.setCell]) hP, ?_, fun p hp => ?_, hrb⟩
  · obtain ⟨j, hj, rfl⟩ := List.getElem_of_mem hp
    have hj' : j < Rs.length := by simpa using hj
    rw [List.getElem_set]
    split
    · exact ⟨r1.put i u, r2⟩
    · rename_i ej
      obtain ⟨q1, q2⟩ := h.rows _ (List.getElem_mem hj')
      refine ⟨q1.far (fun e => ?_) u, q2⟩
      have hnd := List.pairwise_iff_getElem.1 h.nd
      dsimp only at e
      rcases Nat.lt_or_gt_of_ne ej with h1 | h1
      · have := hnd n j (by simpa using hlt) (by simpa using hj') h1
        simp [hg, e] at this
      · have := hnd j n (by simpa using hj') (by simpa using hlt) h1
        simp [hg, e] at this
  · obtain ⟨cs, o1, o2⟩ := h.own
    exact ⟨cs, ownsRow_setCell_other o1 (a := ⟨g, i, none⟩) (h.ownr _ hgm) u, o2.keep (by simp [World.setCell]) hP⟩
  · obtain ⟨q, hq, e⟩ := hmem p hp
    rw [← e]; exact h.ownr q hq
/-- A node is laid behind the others of the list. -/
theorem LS.push (h : LS X w0 w b Rs Ks v K) {v' : Value} {k : Fo} {news cs : List Value} (hc : w.ownsRow w0.heap.size 25 6 v K.len cs ∧ FC w (PB w0.heap.size Rs v) K cs) (hf : FC w (PB w0.heap.size Rs v) k news) (hown : w'.ownsRow w0.heap.size 25 6 v' (K.len + k.len) (cs ++ news)) (hg : w.grownBy w' v.ownBlock) (hat : ∀ j, v'.ownBlock = some j → v.ownBlock = some j ∨ w.heap.size ≤ j) : LS X w0 w' b Rs Ks v' (K.app k) := by
  have hrb := h.rb
  have hlt := hc.1.lt
  have hP : ∀ g, PB w0.heap.size Rs v g → g < w.heap.size → w'.heap[g]? = w.heap[g]? ∧ PB w0.heap.size Rs v' g := fun g hp hl => by
    refine ⟨hg.block g hl (fun e => hp.2.2 e.symm), hp.1, hp.2.1, fun e => ?_⟩
    rcases hat g e with e | e
    · exact hp.2.2 e
    · omega
  refine ⟨h.st.grown hg (fun j e => ?_), h.fr.grown hg h.size (fun j e => (hlt j e).1), fun p hp => ?_, h.nd, fun x hx => (h.kvs x hx).keep hg.size hP, ⟨cs ++ news, ?_, FC.app K cs (hc.2.keep hg.size hP) (hf.keep hg.size hP)⟩, fun p hp e => ?_, hrb⟩
  · have := (hlt j e).1; omega
  · obtain ⟨r1, r2⟩ := h.rows p hp
    exact ⟨r1.grown hg (fun e => h.ownr p hp e.symm), r2⟩
  · rw [Fo.len_app]; exact hown
  · rcases hat _ e with e | e
    · exact h.ownr p hp e
    · have := (h.rows p hp).1.lt
      omega
/-- The list, as nodes of one's own. -/
theorem LS.list (h : LS X w0 w b Rs Ks v K) : ∃ A cap, v = .slice A K.len cap ∧ K.len ≤ cap ∧ KV w (fun g => w0.heap.size ≤ g) K A cap := by
  obtain ⟨cs, o1, o2⟩ := h.own
  have hv : ∃ A cap, v = .slice A K.len cap ∧ K.len ≤ cap := by
    rcases o1.2 with ⟨rfl, e⟩ | ⟨g, cap, cur, rfl, _, _, hc, _⟩
    · exact ⟨none, 0, by rw [e], by omega⟩
    · exact ⟨_, cap, rfl, hc⟩
  obtain ⟨A, cap, rfl, hc⟩ := hv
  exact ⟨A, cap, rfl, hc, KV.of_own o1 rfl o2 (fun g hg => hg.1) (fun g hg _ => hg) hc⟩
theorem LS.listP (h : LS X w0 w b Rs Ks v K) : ∃ A cap, v = .slice A K.len cap ∧ K.len ≤ cap ∧ KV w (fun g => w0.heap.size ≤ g ∧ ∀ p ∈ Rs, p.1 ≠ g) K A cap := by
  obtain ⟨A, cap, rfl, hc, _⟩ := h.list
  obtain ⟨cs, o1, o2⟩ := h.own
  exact ⟨A, cap, rfl, hc, KV.of_own o1 rfl o2 (fun g hg => ⟨hg.1, hg.2.1⟩) (fun g hg e => ⟨hg, fun p hp e2 => h.ownr p hp (by rw [e2]; exact e)⟩) hc⟩
/-- A list begins anew. -/
theorem LS.fresh (h : LS X w0 w b Rs Ks v K) : LS X w0 w b Rs Ks (.slice none 0 0) .nil :=
  ⟨h.st, h.fr, h.rows, h.nd, fun k hk => (h.kvs k hk).keep (Nat.le_refl _) (fun g hg _ => ⟨rfl, hg.1, hg.2.1, by simp [Value.ownBlock]⟩), ⟨[], World.ownsRow_nil _ _ _ _, by rw [FC]⟩, fun p _ => by simp [Value.ownBlock], h.rb⟩
theorem LS.row (h : LS X w0 w b Rs Ks v K) (n : Nat) {g : Nat} {t : TypeId} {c : Array Value} (hn : Rs[n]? = some (g, t, c)) : RowB w g t c := by
  obtain ⟨hlt, hg⟩ := List.getElem?_eq_some_iff.1 hn
  exact (h.rows (g, t, c) (by rw [← hg]; exact List.getElem_mem hlt)).1
theorem LS.kidP (h : LS X w0 w b Rs Ks v K) (n : Nat) {k : Fo} {A : Option Addr} {cap : Nat} (hn : Ks[n]? = some (k, A, cap)) : KV w (PB w0.heap.size Rs v) k A cap := by
  obtain ⟨hlt, hg⟩ := List.getElem?_eq_some_iff.1 hn
  exact h.kvs (k, A, cap) (by rw [← hg]; exact List.getElem_mem hlt)
theorem LS.put6 (h : LS X w0 w b Rs Ks v K) (n : Nat) {g : Nat} {t : TypeId} {c : Array Value} (hn : Rs[n]? = some (g, t, c)) (hc : c.size = 6) (u0 u1 u2 u3 u4 u5 : Value) :
    LS X w0 ((((((w.setCell ⟨g, 0, none⟩ u0).setCell ⟨g, 1, none⟩ u1).setCell ⟨g, 2, none⟩ u2).setCell ⟨g, 3, none⟩ u3).setCell ⟨g, 4, none⟩ u4).setCell ⟨g, 5, none⟩ u5) b (Rs.set n (g, t, #[u0, u1, u2, u3, u4, u5])) Ks v K := by
  have hlt : n < Rs.length := (List.getElem?_eq_some_iff.1 hn).1
  have key : ∀ (l : List Row) (x : Row), l.length = Rs.length → (l.set n x)[n]? = some x := fun l x hl => by rw [List.getElem?_set_self (by omega)]
  have h1 := h.set n hn 0 u0
  have h2 := h1.set n (key _ _ (by simp)) 1 u1
  have h3 := h2.set n (key _ _ (by simp)) 2 u2
  have h4 := h3.set n (key _ _ (by simp)) 3 u3
  have h5 := h4.set n (key _ _ (by simp)) 4 u4
  have h6 := h5.set n (key _ _ (by simp)) 5 u5
  simp only [List.set_set] at h6
  rwa [six hc] at h6
/-- A list begins with nodes that are laid. -/
theorem LS.lit (h : LS X w0 w b Rs Ks v K) {k : Fo} {cs : Array Value} (hf : FC w (PB w0.heap.size Rs (.slice none 0 0)) k cs.toList) (g0 : Nat) (hg0 : g0 = w.heap.size) (hm : k.len ≤ maxLen) : LS X w0 (w.alloc (.cells cs 25)) b Rs Ks (.slice (some ⟨g0, 0, none⟩) k.len k.len) k := by
  subst hg0
  have h' := h.fresh.other (bel1 w (.cells cs 25))
  have hsz := h.size
  have hkl := hf.len
  have hbk : ∀ g, PB w0.heap.size Rs (.slice none 0 0) g → g < w.heap.size → (w.alloc (.cells cs 25)).heap[g]? = w.heap[g]? ∧ PB w0.heap.size Rs (.slice (some ⟨w.heap.size, 0, none⟩) k.len k.len) g := fun g hg hl => ⟨Below.heap_alloc _ _ _ hl, hg.1, hg.2.1, by simp [Value.ownBlock]; omega⟩
  refine ⟨h'.st, h'.fr, h'.rows, h'.nd, fun x hx => (h.fresh.kvs x hx).keep (by simp) hbk, ⟨cs.toList, ⟨by simpa using hkl, .inr ⟨w.heap.size, k.len, cs, rfl, hsz, heap_alloc_new w _, Nat.le_refl _, hm, by simpa using hkl, ?_⟩⟩, hf.keep (by simp) hbk⟩, fun p hp => ?_, h.rb⟩
  · rw [List.take_of_length_le (by rw [hkl]; exact Nat.le_refl _)]
  · have := (h.rows p hp).1.lt
    simp [Value.ownBlock]; omega
/-- A block that is asked for no more. -/
theorem LS.drop {p : Row} (h : LS X w0 w b (p :: Rs) Ks v K) : LS X w0 w b Rs Ks v K := by
  have hb : ∀ g, PB w0.heap.size (p :: Rs) v g → g < w.heap.size → w.heap[g]? = w.heap[g]? ∧ PB w0.heap.size Rs v g := fun g hg _ => ⟨rfl, hg.1, fun q hq => hg.2.1 q (List.mem_cons_of_mem _ hq), hg.2.2⟩
  obtain ⟨cs, o1, o2⟩ := h.own
  exact ⟨h.st, h.fr, fun q hq => h.rows q (List.mem_cons_of_mem _ hq), (List.nodup_cons.1 h.nd).2, fun k hk => (h.kvs k hk).keep (Nat.le_refl _) hb, ⟨cs, o1, o2.keep (Nat.le_refl _) hb⟩, fun q hq => h.ownr q (List.mem_cons_of_mem _ hq), h.rb⟩
theorem LS.noK (h : LS X w0 w b Rs Ks v K) : LS X w0 w b Rs [] v K :=
  ⟨h.st, h.fr, h.rows, h.nd, fun q hq => by simp at hq, h.own, h.ownr, h.rb⟩
theorem LS.kv {A : Option Addr} {cap n : Nat} (h : LS X w0 w b Rs Ks (.slice A n cap) K) : KV w (fun g => w0.heap.size ≤ g) K A cap := by
  obtain ⟨A', cap', e, hc, hk⟩ := h.list
  obtain ⟨e1, e2, e3⟩ := Value.slice.inj e
  rw [e1, e3]
  exact hk
theorem LS.K1 {k : Kid} (h : LS X w0 w b Rs (k :: Ks) v K) : LS X w0 w b Rs [k] v K :=
  ⟨h.st, h.fr, h.rows, h.nd, fun q hq => h.kvs q (by rw [List.mem_singleton.1 hq]; exact List.mem_cons_self), h.own, h.ownr, h.rb⟩
/-- The list becomes a node's kids. -/
theorem LS.toKid {A : Option Addr} {cap n : Nat} (h : LS X w0 w b Rs Ks (.slice A n cap) K) : LS X w0 w b Rs ((K, A, cap) :: Ks) (.slice none 0 0) .nil := by
  have hf := h.fresh
  obtain ⟨A', cap', e, hc, hk⟩ := h.listP
  obtain ⟨e1, e2, e3⟩ := Value.slice.inj e
  refine ⟨hf.st, hf.fr, hf.rows, hf.nd, fun x hx => ?_, hf.own, hf.ownr, hf.rb⟩
  rcases List.mem_cons.1 hx with rfl | hx
  · rw [← e1, ← e3] at hk
    exact hk.keep (Nat.le_refl _) (fun g hg _ => ⟨rfl, hg.1, hg.2, by simp [Value.ownBlock]⟩)
  · exact hf.kvs x hx
end Ps
end Go.Proofs.Ytnefnnoleeeedaa

/- Contracts: the document's reader: an import. -/
namespace Go.Proofs.Ytnefnnoleeeedaa
open Go.RowKit
namespace Ps

/-- What a call of the reader that answers a node comes to. -/
def NodeP (X : Cx) (w : World) (r : Fo × Nat × Int) (e : Ending) (w' : World) : Prop :=
  ∃ h k A cap, r.1 = .one h k ∧ e = .returned (.tuple #[nv h A k.len cap, .int .i64 r.2.1]) ∧ KV w' (fun g => w.heap.size ≤ g) k A cap ∧ St X w' r.2.2 ∧ Fr X.rb w.heap.size w w' ∧ r.2.1 < X.l.length
abbrev zc : Array Value := #[.int .i64 0, .int .i64 0, .int .i64 0, .string ⟨#[]⟩, .int .i64 0, .slice none 0 0]
abbrev nc (h : Hd) (A : Option Addr) (n cap : Nat) : Array Value := #[.int .i64 h.kind, .int .i64 h.fro, .int .i64 h.til, .string h.word, .int .i64 h.at_, .slice A n cap]

set_option maxHeartbeats 4000000 in
set_option maxRecDepth 100000 in
theorem use_any (X : Cx) (b : Int) (i : Nat) (w : World) (hS : St X w b) (hi : i + 1 < X.l.length) :
    Calls Try.prog 54 #[X.p, .int .i64 i] w fun e w' => NodeP X w (useM X.l b i) e w' := by
  have hrb := hS.row.lt
  have hle := hS.wf.le
  obtain ⟨j, hj⟩ : ∃ j, j = i + 1 := ⟨_, rfl⟩
  obtain ⟨⟨⟨k1, f1, t1, wd1, q1⟩, a1, b1⟩, h1⟩ : ∃ r, r = wordM X.l b ⟨23, j, 0, e0, 0⟩ j := ⟨_, rfl⟩
  obtain ⟨⟨a2, b2⟩, h2⟩ : ∃ r, r = wantM X.l b1 a1 sDot := ⟨_, rfl⟩
  obtain ⟨⟨⟨k3, f3, t3, wd3, q3⟩, a3, b3⟩, h3⟩ : ∃ r, r = wordM X.l b2 ⟨2, i, 0, e0, 0⟩ a2 := ⟨_, rfl⟩
  obtain ⟨⟨a4, b4⟩, h4⟩ : ∃ r, r = wantM X.l b3 a3 sSem := ⟨_, rfl⟩
  have hres : useM X.l b i = (.one ⟨k3, f3, a4, wd3, q3⟩ (.one ⟨k1, f1, a1, wd1, q1⟩ .nil), a4, b4) := by
    unfold useM
    simp only [← hj, ← h1, ← h2, ← h3, ← h4]
  rw [hres]
  have C1 : Hid (∀ w', St X w' b → Calls Try.prog 82 #[X.p, nv ⟨23, j, 0, e0, 0⟩ none 0 0, .int .i64 j] w' fun e w'' => WordP X w' (⟨k1, f1, t1, wd1, q1⟩, a1, b1) none 0 0 e w'') := fun w' h => by rw [h1]; exact word_any X b _ none 0 0 j w' h (by omega)
  have C2 : Hid (a1 < X.l.length → ∀ w', St X w' b1 → Calls Try.prog 83 #[X.p, .int .i64 a1, .string ⟨#[46]⟩] w' fun e w'' => AtP X w' (a2, b2) e w'') := fun hl w' h => by rw [h2]; exact want_any X b1 a1 ⟨#[46]⟩ w' h hl
  have C3 : Hid (a2 < X.l.length → ∀ w', St X w' b2 → Calls Try.prog 82 #[X.p, nv ⟨2, i, 0, e0, 0⟩ none 0 0, .int .i64 a2] w' fun e w'' => WordP X w' (⟨k3, f3, t3, wd3, q3⟩, a3, b3) none 0 0 e w'') := fun hl w' h => by rw [h3]; exact word_any X b2 _ none 0 0 a2 w' h hl
  have C4 : Hid (a3 < X.l.length → ∀ w', St X w' b3 → Calls Try.prog 83 #[X.p, .int .i64 a3, .string ⟨#[59]⟩] w' fun e w'' => AtP X w' (a4, b4) e w'') := fun hl w' h => by rw [h4]; exact want_any X b3 a3 ⟨#[59]⟩ w' h hl
  have L0 := Lib.hid ((LS.start hS).alloc w.heap.size rfl 25 zc)
  have e1 : IntKind.i64.wrap ((i : Int) + 1) = (j : Int) := by rw [IntKind.wrap_i64]; omega
  clear hS h1 h2 h3 h4 hres hj
  go_enter Try.func54, Try.ntmps54
  go_wp2_with fail
  refine (C1.out _ L0.out.st).mono ?_
  rintro e w1 ⟨rfl, hS1, hF1, hl1⟩
  have L1 := Lib.hid (((L0.out.step hS1 hF1).alloc w1.heap.size rfl 25 (nc ⟨k1, f1, a1, wd1, q1⟩ none 0 0)).alloc (w1.heap.size + 1) (by simp) 25 (nc ⟨2, i, 0, e0, 0⟩ none 0 0))
  clear hS1 hF1
  go_wp2_with fail
  refine (C2.out hl1 _ L1.out.st).mono ?_
  rintro e w2 ⟨rfl, hS2, hF2, hl2⟩
  have L2 := Lib.hid (L1.out.step hS2 hF2)
  have r2 := (L2.out.row 0 rfl).cell
  clear hS2 hF2
  go_wp2_with fail
  refine (C3.out hl2 _ L2.out.st).mono ?_
  rintro e w3 ⟨rfl, hS3, hF3, hl3⟩
  have L3 := Lib.hid ((L2.out.step hS3 hF3).put6 0 rfl rfl (.int .i64 k3) (.int .i64 f3) (.int .i64 t3) (.string wd3) (.int .i64 q3) (.slice none 0 0))
  have r3 := ((L2.out.step hS3 hF3).row 0 rfl).cell
  have t3' := ((L2.out.step hS3 hF3).row 0 rfl).thaw
  clear hS3 hF3 r2
  go_wp2_with fail
  refine (C4.out hl3 _ L3.out.st).mono ?_
  rintro e w4 ⟨rfl, hS4, hF4, hl4⟩
  have L4 := Lib.hid (L3.out.step hS4 hF4)
  have r4 := (L4.out.row 0 rfl).cell
  have r5 := (L4.out.row 1 rfl).cell
  have r6 := (L4.out.row 2 rfl).cell
  have t6 := (L4.out.row 2 rfl).thaw
  clear hS4 hF4 r3 t3'
  go_wp2_with fail
  have L5 := Lib.hid (L4.out.slice w4.heap.size rfl (k := .one ⟨k1, f1, a1, wd1, q1⟩ .nil) (cs := nc ⟨k1, f1, a1, wd1, q1⟩ none 0 0) (FC.one (KV.nil _ _ _ _)))
  refine (ended_any ⟨k3, f3, t3, wd3, q3⟩ none 0 0 a4 (some ⟨w4.heap.size, 0, none⟩) 1 1 _).mono ?_
  rintro e w5 ⟨rfl, hb5⟩
  have L6 := Lib.hid ((L5.out.other hb5).put6 2 rfl rfl (.int .i64 k3) (.int .i64 f3) (.int .i64 a4) (.string wd3) (.int .i64 q3) (.slice (some ⟨w4.heap.size, 0, none⟩) 1 1))
  have r7 := ((L5.out.other hb5).row 2 rfl).cell
  have t7 := ((L5.out.other hb5).row 2 rfl).thaw
  have r8 := (L6.out.row 2 rfl).cell
  clear hb5 r4 r5 r6 t6
  go_wp2
  refine bodyPost_ret ?_ rfl ⟨⟨k3, f3, a4, wd3, q3⟩, .one ⟨k1, f1, a1, wd1, q1⟩ .nil, some ⟨w4.heap.size, 0, none⟩, 1, rfl, rfl, ?_, L6.out.st, L6.out.fr, hl4⟩
  · simp [results, Try.results54, go_sem, r8]
    rfl
  · exact (L6.out.kidP 0 rfl).new_ (fun g h => h.1)
end Ps
end Go.Proofs.Ytnefnnoleeeedaa

