import Derived.StringKeys
import Derived.Maps.RangeWalk
import Derived.Deep.CutRange
import Derived.Deep.OwnRows
import Derived.Deep.LoopGhost
import Derived.Laws.MakeOwn
import Derived.Laws.OwnMore
import Derived.Laws.AppendOwn
import Derived.Test.YtnefnnoleeeedaaSA
import Derived.Maps.AppendAt
import Derived.Outline
import Derived.OwnWalk
import Derived.RegionTactic
import Derived.Test.YtnefnnoleeeedaaMAA
import Derived.Deep.RegionHeld3
import Derived.BigQuiet
import Derived.WalkArith
namespace Go.Proofs.Ytnefnnoleeeedaa
open Go.RowKit Go.Op
namespace Sc
abbrev hcc (h : Hi) (A : Option Addr) (n cap : Nat) : Array Value := #[.int .i64 h.kind, .int .i64 h.fro, .int .i64 h.til, .string h.word, .int .i64 h.at_, .slice A n cap]
abbrev hvv (h : Hi) (A : Option Addr) (n cap : Nat) : Value := .agg #[.int .i64 h.kind, .int .i64 h.fro, .int .i64 h.til, .string h.word, .int .i64 h.at_, .slice A n cap]
def TC (w : World) (B : Nat) : Tr → List Value → Prop
  | .nil, cs => cs = []
  | .cons h k r, cs => ∃ A cap cs', cs = [.int .i64 h.kind, .int .i64 h.fro, .int .i64 h.til, .string h.word, .int .i64 h.at_, .slice A k.len cap] ++ cs' ∧ h.word.size ≤ maxLen ∧ k.len ≤ cap ∧
      (0 < k.len → ∃ (g o : Nat) (ck : List Value), A = some ⟨g, o, none⟩ ∧ g < B ∧ (∀ j u, ck[j]? = some u → w.cell? ⟨g, o + j, none⟩ = some u) ∧ TC w B k ck) ∧ TC w B r cs'
def TV (w : World) (B : Nat) (k : Tr) (A : Option Addr) (cap : Nat) : Prop :=
  k.len ≤ cap ∧ (0 < k.len → ∃ (g o : Nat) (ck : List Value), A = some ⟨g, o, none⟩ ∧ g < B ∧ (∀ j u, ck[j]? = some u → w.cell? ⟨g, o + j, none⟩ = some u) ∧ TC w B k ck)
def Old (B : Nat) (w w' : World) : Prop := ∀ g, g < B → w'.heap[g]? = w.heap[g]?
theorem Old.refl (B : Nat) (w : World) : Old B w w := fun _ _ => rfl
theorem Old.trans {B : Nat} {a b c : World} (h : Old B a b) (k : Old B b c) : Old B a c := fun g hg => (k g hg).trans (h g hg)
theorem Old.of {B : Nat} {w w' : World} (h : Below B w w') : Old B w w' := fun g hg => h.block g hg
theorem TC.keep {B : Nat} {w w' : World} (hb : Old B w w') : ∀ (f : Tr) (cs : List Value), TC w B f cs → TC w' B f cs
  | .nil, cs, h => by rw [TC] at h ⊢; exact h
  | .cons hd k r, cs, h => by
    rw [TC] at h ⊢
    obtain ⟨A, cap, cs', e, hw, hc, hk, hr⟩ := h
    refine ⟨A, cap, cs', e, hw, hc, fun h0 => ?_, TC.keep hb r cs' hr⟩
    obtain ⟨g, o, ck, e1, h1, h3, h4⟩ := hk h0
    exact ⟨g, o, ck, e1, h1, fun j u hu => (World.cell?_of_block (w := w) (hb g h1)).trans (h3 j u hu), TC.keep hb k ck h4⟩
theorem TV.keep {B : Nat} {w w' : World} (hb : Old B w w') {k : Tr} {A : Option Addr} {cap : Nat} (h : TV w B k A cap) : TV w' B k A cap := by
  refine ⟨h.1, fun h0 => ?_⟩
  obtain ⟨g, o, ck, e1, h1, h3, h4⟩ := h.2 h0
  exact ⟨g, o, ck, e1, h1, fun j u hu => (World.cell?_of_block (w := w) (hb g h1)).trans (h3 j u hu), TC.keep hb k ck h4⟩
theorem TC.nth {B : Nat} {w : World} : ∀ (k : Tr) (cs : List Value) (i : Nat) (h : Hi) (kk r : Tr), TC w B k cs → k.drop i = .cons h kk r → h.word.size ≤ maxLen ∧ ∃ A2 c2, TV w B kk A2 c2 ∧ ∀ j u, [Value.int .i64 h.kind, .int .i64 h.fro, .int .i64 h.til, .string h.word, .int .i64 h.at_, .slice A2 kk.len c2][j]? = some u → cs[i * 6 + j]? = some u
  | .nil, cs, i, h, kk, r, _, e => by rw [Tr.drop_nil] at e; cases e
  | .cons h' k' r', cs, 0, h, kk, r, hf, e => by
    rw [Tr.drop] at e
    injection e with e1 e2 e3
    subst e1 e2 e3
    rw [TC] at hf
    obtain ⟨A, cap, cs', e, hw, hc, hk, _⟩ := hf
    refine ⟨hw, A, cap, ⟨hc, hk⟩, fun j u hu => ?_⟩
    rw [e, Nat.zero_mul, Nat.zero_add, List.getElem?_append_left (List.getElem?_eq_some_iff.1 hu).1]
    exact hu
  | .cons h' k' r', cs, i + 1, h, kk, r, hf, e => by
    rw [Tr.drop] at e
    rw [TC] at hf
    obtain ⟨A, cap, cs', e', hw, hc, _, hr⟩ := hf
    obtain ⟨hw2, A2, c2, h1, h2⟩ := TC.nth r' cs' i h kk r hr e
    refine ⟨hw2, A2, c2, h1, fun j u hu => ?_⟩
    rw [e', show (i + 1) * 6 + j = 6 + (i * 6 + j) by omega, List.getElem?_append_right (by simp)]
    simpa using h2 j u hu
theorem TV.nth {B : Nat} {w : World} {k : Tr} {A : Option Addr} {cap i : Nat} {h : Hi} {kk r : Tr} (hk : TV w B k A cap) (e : k.drop i = .cons h kk r) :
    h.word.size ≤ maxLen ∧ ∃ g o A2 c2, A = some ⟨g, o, none⟩ ∧ g < B ∧ TV w B kk A2 c2 ∧ w.cell? ⟨g, o + i * 6, none⟩ = some (.int .i64 h.kind) ∧ w.cell? ⟨g, o + i * 6 + 1, none⟩ = some (.int .i64 h.fro) ∧ w.cell? ⟨g, o + i * 6 + 2, none⟩ = some (.int .i64 h.til) ∧
      w.cell? ⟨g, o + i * 6 + 3, none⟩ = some (.string h.word) ∧ w.cell? ⟨g, o + i * 6 + 4, none⟩ = some (.int .i64 h.at_) ∧ w.cell? ⟨g, o + i * 6 + 5, none⟩ = some (.slice A2 kk.len c2) := by
  have hl : 0 < k.len := by
    rcases Nat.eq_zero_or_pos k.len with h0 | h0
    · rw [Tr.drop_len k i (by omega)] at e; cases e
    · exact h0
  obtain ⟨g, o, ck, hA, hg, hc, hf⟩ := hk.2 hl
  obtain ⟨hw, A2, c2, h1, h2⟩ := TC.nth k ck i h kk r hf e
  have key := fun j u hu => hc _ _ (h2 j u hu)
  exact ⟨hw, g, o, A2, c2, hA, hg, h1, key 0 _ rfl, key 1 _ rfl, key 2 _ rfl, key 3 _ rfl, key 4 _ rfl, key 5 _ rfl⟩
open Go.Maps
theorem lawS : Keyed Try.prog 9 := string_keyed Try.underlying9
theorem zeroI (w : World) : (zeroValue 3).run Try.prog w = .ok (.int .i64 0) w := by kernel_rfl
abbrev kl (s : ByteArray) : Lit := .string s.data.toList
theorem kl_inj {s t : ByteArray} (h : kl s = kl t) : s = t := by
  injection h with h
  exact ByteArray.ext (Array.toList_inj.1 h)
theorem kl_key {s : ByteArray} (h : s.size ≤ maxLen) : keyOf Try.prog 9 (.string s) = some (kl s) := WideMaps.keyOf_string_mk Try.underlying9 h
theorem kl_is {s : ByteArray} (h : s.size ≤ maxLen) : WideAt.IsKeyLit (kl s) := lawS.key (kl_key h)
def Says (D : DataW Unit) (f : ByteArray → Option Int) : Prop :=
  IsMap D ∧ ∀ s, s.size ≤ maxLen → has D (kl s) = (f s).isSome ∧ D.atKey (kl s) (.lit (.int .i64 0)) = .lit (.int .i64 ((f s).getD 0))
theorem Says.empty : Says (.map []) fun _ => none := ⟨isMap_empty, fun _ _ => ⟨rfl, rfl⟩⟩
theorem Says.put {D : DataW Unit} {f : ByteArray → Option Int} (h : Says D f) {x : ByteArray} (hx : x.size ≤ maxLen) (v : Int) : Says (D.put (kl x) (.lit (.int .i64 v))) (up f x (some v)) := by
  refine ⟨h.1.put _ _, fun s hs => ?_⟩
  unfold up
  by_cases e : s = x
  · subst e
    rw [if_pos rfl]
    exact ⟨has_put_same h.1 (kl_is hs) _, atKey_put_same h.1 (kl_is hs) _ _⟩
  · rw [if_neg e, has_put_other (fun e' => e (kl_inj e')), atKey_put_other (fun e' => e (kl_inj e'))]
    exact h.2 s hs
def MF (w : World) (b n : Nat) (f : ByteArray → Option Int) : Prop := ∃ D : DataW Unit, w.ownsMap Try.prog 9 (plainElem Try.prog 3) b n D ∧ Says D f
theorem MF.lt {w : World} {b n : Nat} {f : ByteArray → Option Int} (h : MF w b n f) : b < w.heap.size := by obtain ⟨D, h, _⟩ := h; exact h.lt
theorem MF.new (w : World) : MF (w.alloc (.map #[] 0)) w.heap.size 0 fun _ => none := ⟨_, World.ownsMap_made w _ _ _, .empty⟩
theorem MF.mono {w : World} {b n m : Nat} {f : ByteArray → Option Int} (h : MF w b n f) (hn : n ≤ m) : MF w b m f := by obtain ⟨D, h, k⟩ := h; exact ⟨D, h.mono hn, k⟩
theorem MF.of_block {w w' : World} {b n : Nat} {f : ByteArray → Option Int} (h : MF w b n f) (hb : w'.heap[b]? = w.heap[b]?) : MF w' b n f := by
  obtain ⟨D, ⟨es, clock, h1, h2⟩, k⟩ := h
  exact ⟨D, ⟨es, clock, hb.trans h1, h2⟩, k⟩
theorem MF.block {w : World} {b n : Nat} {f : ByteArray → Option Int} (h : MF w b n f) : ∃ es clock, w.heap[b]? = some (.map es clock) := by
  obtain ⟨D, ⟨es, clock, h1, _⟩, _⟩ := h
  exact ⟨es, clock, h1⟩
theorem MF.look {w : World} {b n : Nat} {f : ByteArray → Option Int} (h : MF w b n f) {t : TypeId} (ht : Try.prog.underlying t = some (.map 9 3)) {x : ByteArray} (hx : x.size ≤ maxLen) :
    (Instr.lookup t (.map (some b)) (.string x) true).run Try.prog w = .ok (.tuple #[.int .i64 ((f x).getD 0), .bool (f x).isSome]) w := by
  obtain ⟨D, h, k⟩ := h
  obtain ⟨v, ps, hr, hv⟩ := h.look_ok lawS ht (zeroI w) (plainElem_int Try.underlying3 (by decide)) (kl_key hx)
  obtain ⟨k1, k2⟩ := k.2 x hx
  obtain ⟨c, rfl, hc, _⟩ := plainElem_int_inv Try.underlying3 hv
  simp only [Prod.mk.injEq] at hc
  rw [k2] at hc
  have := hc.1
  simp only [DataW.lit.injEq, Lit.int.injEq, true_and] at this
  rw [hr, k1, this]
theorem MF.put {w : World} {b n : Nat} {f : ByteArray → Option Int} (h : MF w b n f) {t : TypeId} (ht : Try.prog.underlying t = some (.map 9 3)) (hn : n < maxLen) {x : ByteArray} (hx : x.size ≤ maxLen) {v : Int} (hv : (Lit.int .i64 v).wf = true) :
    ∃ w', (Instr.mapUpdate t (.map (some b)) (.string x) (.int .i64 v)).run Try.prog w = .ok () w' ∧ MF w' b (n + 1) (up f x (some v)) ∧ w.grownBy w' (some b) := by
  obtain ⟨D, h, k⟩ := h
  obtain ⟨w', h1, h2, h3⟩ := h.update lawS ht hn (kl_key hx) (plainElem_int Try.underlying3 hv)
  exact ⟨w', h1, ⟨_, h2, k.put hx v⟩, h3⟩
theorem wp_mapUpdate_run {o : Oper} {a : Act} {w : World} {K : Act → World → Prop} {Q : Exit → Act → World → Prop} (m x v : Operand) (t : TypeId)
    (ho : o.op = .mapUpdate t m x v) {mv xv vv : Value} {w' : World} (hm : a.eval m = mv) (hx : a.eval x = xv) (hv : a.eval v = vv)
    (hr : (Instr.mapUpdate t mv xv vv).run Try.prog w = .ok () w') (h : K (a.put o.dst undef) w') : Oper.wp Try.prog o a w K Q := by
  unfold Oper.wp execOp
  simp [ho, hm, hx, hv, hr, Result.andThen]
  exact h
theorem wp_append_run {o : Oper} {a : Act} {w : World} {K : Act → World → Prop} {Q : Exit → Act → World → Prop} (s x : Operand) (t : TypeId)
    (ho : o.op = .call { callee := .builtin .append, args := #[s, x], argTypes := #[t, t] }) {v u v' : Value} {w' : World} (hs : a.eval s = v) (hx : a.eval x = u)
    (hr : (Builtin.append_ #[t, t] o.type #[v, u]).run Try.prog w = .ok v' w') (h : K (a.put o.dst v') w') : Oper.wp Try.prog o a w K Q := by
  unfold Oper.wp execOp
  simp only [ho, resolve, invoke, builtin, Sem.run_bind, Sem.run_pure, Result.andThen_ok, List.map_toArray, List.map_cons, List.map_nil, hs, hx, hr]
  exact h
theorem own_apart {w : World} {b1 b2 e1 e2 s1 s2 n m : Nat} {u v : Value} {xs ys : List Value} (h1 : w.ownsRow b1 e1 s1 u n xs) (h2 : w.ownsRow b2 e2 s2 v m ys) (he : e1 ≠ e2) : u.ownBlock = none ∨ u.ownBlock ≠ v.ownBlock := by
  rcases h1.2 with ⟨rfl, _⟩ | ⟨g, cap, cur, rfl, _, hg, _⟩
  · exact .inl rfl
  · refine .inr fun e => ?_
    rcases h2.2 with ⟨rfl, _⟩ | ⟨g', cap', cur', rfl, _, hg', _⟩
    · simp [Value.ownBlock] at e
    · simp only [Value.ownBlock, Option.some.injEq] at e
      subst e
      rw [hg] at hg'
      simp at hg'
      exact he hg'.2
theorem own_block {w w' : World} {b e s n : Nat} {v : Value} {xs : List Value} (h : w.ownsRow b e s v n xs) (hg : ∀ g, v.ownBlock = some g → w'.heap[g]? = w.heap[g]?) : w'.ownsRow b e s v n xs := by
  refine ⟨h.1, ?_⟩
  rcases h.2 with ⟨hv, hn⟩ | ⟨g, cap, cur, rfl, h1, h2, h3⟩
  · exact .inl ⟨hv, hn⟩
  · exact .inr ⟨g, cap, cur, rfl, h1, (hg g rfl).trans h2, h3⟩
theorem own_shape {w : World} {base e s n : Nat} {v : Value} {xs : List Value} (h : w.ownsRow base e s v n xs) : ∃ A cap, v = .slice A n cap ∧ n ≤ cap := by
  rcases h.2 with ⟨hv, rfl⟩ | ⟨g, cap, cur, hv, _, _, h1, _⟩
  · exact ⟨none, 0, hv, Nat.le_refl _⟩
  · exact ⟨_, cap, hv, h1⟩
theorem own_cells {w : World} {base e s n : Nat} {v : Value} {xs : List Value} (h : w.ownsRow base e s v n xs) {g : Nat} (hg : v.ownBlock = some g) : ∃ cs, w.heap[g]? = some (.cells cs e (0, 0)) := by
  rcases h.2 with ⟨rfl, _⟩ | ⟨g', cap, cur, rfl, _, h2, _⟩
  · simp [Value.ownBlock] at hg
  · simp only [Value.ownBlock, Option.some.injEq] at hg
    subst hg
    exact ⟨_, h2⟩
end Sc
end Go.Proofs.Ytnefnnoleeeedaa
namespace Go.Proofs.Ytnefnnoleeeedaa
open Go.RowKit Go.Op
namespace Sc
structure Wc where
  b : Nat
  mb : Nat
  B : Nat
abbrev Wc.p (X : Wc) : Value := .pointer (some ⟨X.b, 0, none⟩)
abbrev bdC (x : Bd) : List Value := [.int .i64 x.at_, .int .i64 x.kind, .string x.word, .int .i64 x.item]
abbrev mnC (x : Mn) : List Value := [.int .i64 x.at_, .int .i64 x.to, .bool x.write, .int .i64 x.far]
abbrev baC (x : Int × Int) : List Value := [.int .i64 x.1, .int .i64 x.2]
abbrev wiC (x : Int) : List Value := [.int .i64 x]
def HM (w : World) (hv : Option Nat) (n : Nat) (f : ByteArray → Option Int) : Prop :=
  match hv with
  | none => n = 0 ∧ f = fun _ => none
  | some h => MF w h n f
def MM (w : World) (b n : Nat) (f : ByteArray → Int) : Prop := ∃ g, MF w b n g ∧ ∀ x, (g x).getD (-1) = f x
theorem HM.of_block {w w' : World} {hv : Option Nat} {n : Nat} {f : ByteArray → Option Int} (h : HM w hv n f) (hb : ∀ g, hv = some g → w'.heap[g]? = w.heap[g]?) : HM w' hv n f := by
  cases hv with
  | none => exact h
  | some g => exact MF.of_block (w := w) h (hb g rfl)
theorem MM.of_block {w w' : World} {b n : Nat} {f : ByteArray → Int} (h : MM w b n f) (hb : w'.heap[b]? = w.heap[b]?) : MM w' b n f := by
  obtain ⟨g, h1, h2⟩ := h
  exact ⟨g, h1.of_block hb, h2⟩
abbrev wcc (v1 v2 v3 v4 : Value) (mb : Nat) (hv : Option Nat) (lam item : Int) : Array Value := #[v1, v2, v3, .map (some mb), .map hv, .int .i64 lam, v4, .int .i64 item]
structure WSr (X : Wc) (w : World) (K : Nat → Prop) (hv : Option Nat) (s : St) (N : Nat) (v1 v2 v3 v4 : Value) (nm nh : Nat) : Prop where
  row : RowB w X.b 72 (wcc v1 v2 v3 v4 X.mb hv s.lam s.item)
  o1 : w.ownsRow X.B 45 4 v1 s.bs.length (s.bs.flatMap bdC)
  o2 : w.ownsRow X.B 47 4 v2 s.ms.length (s.ms.flatMap mnC)
  o3 : w.ownsRow X.B 50 2 v3 s.bad.length (s.bad.flatMap baC)
  o4 : w.ownsRow X.B 3 1 v4 s.within.length (s.within.flatMap wiC)
  mm : MM w X.mb nm s.means
  mh : HM w hv nh s.here
  ne : hv ≠ some X.mb
  sum : s.bs.length + s.ms.length + s.bad.length + s.within.length + nm + nh ≤ N
  kb : K X.b
  km : K X.mb
  kh : ∀ h, hv = some h → K h
  k1 : ∀ g, v1.ownBlock = some g → K g
  k2 : ∀ g, v2.ownBlock = some g → K g
  k3 : ∀ g, v3.ownBlock = some g → K g
  k4 : ∀ g, v4.ownBlock = some g → K g
  lt : ∀ g, K g → X.B ≤ g ∧ g < w.heap.size
structure Gx (K : Nat → Prop) (w : World) (K' : Nat → Prop) (w' : World) : Prop where
  os : w'.os = w.os
  tape : w'.tape = w.tape
  output : w'.output = w.output
  size : w.heap.size ≤ w'.heap.size
  block : ∀ g, g < w.heap.size → ¬ K g → w'.heap[g]? = w.heap[g]?
  own : ∀ g, K' g → K g ∨ w.heap.size ≤ g
theorem Gx.refl (K : Nat → Prop) (w : World) : Gx K w K w := ⟨rfl, rfl, rfl, Nat.le_refl _, fun _ _ _ => rfl, fun _ h => .inl h⟩
theorem Gx.trans {K1 K2 K3 : Nat → Prop} {a b c : World} (h : Gx K1 a K2 b) (k : Gx K2 b K3 c) : Gx K1 a K3 c :=
  ⟨k.os.trans h.os, k.tape.trans h.tape, k.output.trans h.output, Nat.le_trans h.size k.size, fun g hg hn => (k.block g (Nat.lt_of_lt_of_le hg h.size) (fun hk => by
    rcases h.own g hk with h1 | h1
    · exact hn h1
    · omega)).trans (h.block g hg hn), fun g hg => by
    rcases k.own g hg with h1 | h1
    · exact h.own g h1
    · exact .inr (Nat.le_trans h.size h1)⟩
theorem Gx.of {K : Nat → Prop} {w w' : World} (h : Below w.heap.size w w') : Gx K w K w' := ⟨h.os, h.tape, h.output, h.size, fun g hg _ => h.block g hg, fun _ h => .inl h⟩
theorem Gx.alloc (K : Nat → Prop) (w : World) (o : Obj) : Gx K w K (w.alloc o) := .of ((Below.refl _ _).alloc (Nat.le_refl _) o)
theorem Gx.drew (K : Nat → Prop) (w : World) : Gx K w K w.drew := .of (Below.drew (Below.refl _ _))
theorem Gx.drewN (K : Nat → Prop) (w : World) (n : Nat) : Gx K w K (w.drewN n) := ⟨rfl, rfl, rfl, Nat.le_refl _, fun _ _ _ => rfl, fun _ h => .inl h⟩
theorem Gx.row {K K' : Nat → Prop} {w w' : World} (h : Gx K w K' w') {g t : Nat} {cs : Array Value} (hr : RowB w g t cs) (hn : ¬ K g) : RowB w' g t cs := (h.block g hr.lt hn).trans hr
theorem Gx.old {K K' : Nat → Prop} {w w' : World} {B : Nat} (h : Gx K w K' w') (hB : ∀ g, K g → B ≤ g ∧ g < w.heap.size) (hw : B ≤ w.heap.size) : Old B w w' := fun g hg => h.block g (by omega) (fun hk => by have := hB g hk; omega)
variable {X : Wc} {w w' : World} {K : Nat → Prop} {hv : Option Nat} {s : St} {N nm nh : Nat} {v1 v2 v3 v4 : Value}
theorem WSr.keep (h : WSr X w K hv s N v1 v2 v3 v4 nm nh) (hs : w.heap.size ≤ w'.heap.size) (hb : ∀ g, K g → w'.heap[g]? = w.heap[g]?) : WSr X w' K hv s N v1 v2 v3 v4 nm nh :=
  ⟨(hb _ h.kb).trans h.row, own_block h.o1 fun g e => hb g (h.k1 g e), own_block h.o2 fun g e => hb g (h.k2 g e), own_block h.o3 fun g e => hb g (h.k3 g e), own_block h.o4 fun g e => hb g (h.k4 g e),
   h.mm.of_block (hb _ h.km), h.mh.of_block fun g e => hb g (h.kh g e), h.ne, h.sum, h.kb, h.km, h.kh, h.k1, h.k2, h.k3, h.k4, fun g hg => ⟨(h.lt g hg).1, Nat.lt_of_lt_of_le (h.lt g hg).2 hs⟩⟩
theorem WSr.alloc (h : WSr X w K hv s N v1 v2 v3 v4 nm nh) (o : Obj) : WSr X (w.alloc o) K hv s N v1 v2 v3 v4 nm nh :=
  h.keep (by simp) fun g hg => Below.heap_alloc w o g (h.lt g hg).2
theorem WSr.drew (h : WSr X w K hv s N v1 v2 v3 v4 nm nh) : WSr X w.drew K hv s N v1 v2 v3 v4 nm nh := h.keep (Nat.le_refl _) fun _ _ => rfl
theorem WSr.set (h : WSr X w K hv s N v1 v2 v3 v4 nm nh) {p : Addr} (hp : ¬ K p.block) (u : Value) : WSr X (w.setCell p u) K hv s N v1 v2 v3 v4 nm nh :=
  h.keep (by simp [World.setCell]) fun g hg => Below.heap_setCell w p u g (fun e => hp (e ▸ hg))
theorem WSr.mono (h : WSr X w K hv s N v1 v2 v3 v4 nm nh) {N' : Nat} (hN : N ≤ N') : WSr X w K hv s N' v1 v2 v3 v4 nm nh := { h with sum := Nat.le_trans h.sum hN }
theorem WSr.inv (h : WSr X w K hv s N v1 v2 v3 v4 nm nh) : ¬ K w.heap.size := fun hk => by have := (h.lt _ hk).2; omega
theorem own_ne_row {w : World} {base e s n t g : Nat} {v : Value} {xs : List Value} {cs : Array Value} (h : w.ownsRow base e s v n xs) (hr : RowB w g t cs) (he : e ≠ t) : v.ownBlock ≠ some g := fun hg => by
  obtain ⟨cs', e1⟩ := own_cells h hg
  unfold RowB at hr
  rw [hr] at e1
  simp at e1
  exact he e1.2.symm
theorem own_ne_map {w : World} {base e s n g m : Nat} {v : Value} {xs : List Value} {f : ByteArray → Option Int} (h : w.ownsRow base e s v n xs) (hr : MF w g m f) : v.ownBlock ≠ some g := fun hg => by
  obtain ⟨cs', e1⟩ := own_cells h hg
  obtain ⟨es, cl, e2⟩ := hr.block
  rw [e2] at e1
  cases e1
theorem row_ne_map {w : World} {g b t m : Nat} {cs : Array Value} {f : ByteArray → Option Int} (h : RowB w b t cs) (hr : MF w g m f) : g ≠ b := fun hg => by
  subst hg
  obtain ⟨es, cl, e2⟩ := hr.block
  unfold RowB at h
  rw [e2] at h
  cases h
theorem WSr.hv_ne (h : WSr X w K hv s N v1 v2 v3 v4 nm nh) {g : Nat} (e : hv = some g) : MF w g nh s.here := by
  have := h.mh
  rw [e] at this
  exact this
def KU (K : Nat → Prop) (v : Value) (g : Nat) : Prop := K g ∨ v.ownBlock = some g
theorem grown_gx {w1 : World} {v v' : Value} (hg : w.grownBy w1 v.ownBlock) (hk : ∀ g, v.ownBlock = some g → K g) (hl : v'.ownBlock = v.ownBlock ∨ v'.ownBlock = some w.heap.size) : Gx K w (KU K v') w1 :=
  ⟨hg.os, hg.tape, hg.output, hg.size, fun g hg' hn => hg.block g hg' (fun e => hn (hk g e.symm)), fun g h => by
    rcases h with h | h
    · exact .inl h
    · rcases hl with e | e
      · exact .inl (hk g (by rw [← e]; exact h))
      · rw [e] at h
        injection h with h
        exact .inr (by omega)⟩
theorem put_gx {K' : Nat → Prop} {w1 : World} (hg : Gx K w K' w1) {p : Addr} (hb : K p.block) (u : Value) : Gx K w K' (w1.setCell p u) :=
  ⟨hg.os, hg.tape, hg.output, by simpa [World.setCell] using hg.size, fun g h1 hn => (Below.heap_setCell w1 p u g (fun e => hn (e ▸ hb))).trans (hg.block g h1 hn), hg.own⟩
theorem WSr.app1 (h : WSr X w K hv s N v1 v2 v3 v4 nm nh) {w1 : World} {v' : Value} {x : Bd} (ho : w1.ownsRow X.B 45 4 v' (s.bs.length + 1) (s.bs.flatMap bdC ++ bdC x)) (hg : w.grownBy w1 v1.ownBlock) (hl : v'.ownBlock = v1.ownBlock ∨ v'.ownBlock = some w.heap.size) :
    WSr X (w1.setCell ⟨X.b, 0, none⟩ v') (KU K v') hv { s with bs := s.bs ++ [x] } (N + 1) v' v2 v3 v4 nm nh ∧ Gx K w (KU K v') (w1.setCell ⟨X.b, 0, none⟩ v') := by
  have hrow1 : RowB w1 X.b 72 (wcc v1 v2 v3 v4 X.mb hv s.lam s.item) := (hg.block _ h.row.lt (fun e => own_ne_row h.o1 h.row (by decide) e.symm)).trans h.row
  have hS : ∀ g, g ≠ X.b → (w1.setCell ⟨X.b, 0, none⟩ v').heap[g]? = w1.heap[g]? := fun g hn => Below.heap_setCell w1 ⟨X.b, 0, none⟩ v' g hn
  have hB : ∀ g, K g → g ≠ X.b → some g ≠ v1.ownBlock → (w1.setCell ⟨X.b, 0, none⟩ v').heap[g]? = w.heap[g]? := fun g hk hn hne => (hS g hn).trans (hg.block g (h.lt g hk).2 hne)
  have hM : (w1.setCell ⟨X.b, 0, none⟩ v').heap[X.mb]? = w.heap[X.mb]? := by
    obtain ⟨f, m1, _⟩ := h.mm
    exact hB _ h.km (row_ne_map h.row m1) (fun e => own_ne_map h.o1 m1 e.symm)
  have hH : ∀ g, hv = some g → (w1.setCell ⟨X.b, 0, none⟩ v').heap[g]? = w.heap[g]? := fun g e => by
    have m1 := h.hv_ne e
    exact hB _ (h.kh g e) (row_ne_map h.row m1) (fun e => own_ne_map h.o1 m1 e.symm)
  have hGx := put_gx (grown_gx hg h.k1 hl) (p := ⟨X.b, 0, none⟩) h.kb v'
  have hl1 : (s.bs ++ [x]).length = s.bs.length + 1 := by simp
  have hf1 : (s.bs ++ [x]).flatMap bdC = s.bs.flatMap bdC ++ bdC x := by rw [List.flatMap_append]; simp
  refine ⟨⟨hrow1.put 0 v', ?o1, ?o2, ?o3, ?o4, h.mm.of_block hM, h.mh.of_block hH, h.ne, ?sum, .inl h.kb, .inl h.km, fun g e => .inl (h.kh g e), fun g e => .inr e, fun g e => .inl (h.k2 g e), fun g e => .inl (h.k3 g e), fun g e => .inl (h.k4 g e), ?lt⟩, hGx⟩
  case sum => have := h.sum; show _ + nm + nh ≤ N + 1; simp only [List.length_append, List.length_cons, List.length_nil]; omega
  case lt =>
    intro g hk
    rcases hk with hk | hk
    · exact ⟨(h.lt g hk).1, Nat.lt_of_lt_of_le (h.lt g hk).2 (by simpa [World.setCell] using hg.size)⟩
    · have := ho.lt g hk
      exact ⟨this.1, by simpa [World.setCell] using this.2⟩
  case o1 =>
    show World.ownsRow _ X.B 45 4 v' (s.bs ++ [x]).length ((s.bs ++ [x]).flatMap bdC)
    rw [hl1, hf1]
    exact own_block ho fun g e => hS g (fun e2 => own_ne_row ho hrow1 (by decide) (e2 ▸ e))
  case o2 =>
    refine own_block h.o2 fun g e => hB g (h.k2 g e) (fun e2 => own_ne_row h.o2 h.row (by decide) (e2 ▸ e)) (fun e2 => ?_)
    rcases own_apart h.o1 h.o2 (by decide) with a | a
    · rw [a] at e2; cases e2
    · exact a (e2.symm.trans e.symm)
  case o3 =>
    refine own_block h.o3 fun g e => hB g (h.k3 g e) (fun e2 => own_ne_row h.o3 h.row (by decide) (e2 ▸ e)) (fun e2 => ?_)
    rcases own_apart h.o1 h.o3 (by decide) with a | a
    · rw [a] at e2; cases e2
    · exact a (e2.symm.trans e.symm)
  case o4 =>
    refine own_block h.o4 fun g e => hB g (h.k4 g e) (fun e2 => own_ne_row h.o4 h.row (by decide) (e2 ▸ e)) (fun e2 => ?_)
    rcases own_apart h.o1 h.o4 (by decide) with a | a
    · rw [a] at e2; cases e2
    · exact a (e2.symm.trans e.symm)
theorem WSr.app2 (h : WSr X w K hv s N v1 v2 v3 v4 nm nh) {w1 : World} {v' : Value} {x : Mn} (ho : w1.ownsRow X.B 47 4 v' (s.ms.length + 1) (s.ms.flatMap mnC ++ mnC x)) (hg : w.grownBy w1 v2.ownBlock) (hl : v'.ownBlock = v2.ownBlock ∨ v'.ownBlock = some w.heap.size) :
    WSr X (w1.setCell ⟨X.b, 1, none⟩ v') (KU K v') hv { s with ms := s.ms ++ [x] } (N + 1) v1 v' v3 v4 nm nh ∧ Gx K w (KU K v') (w1.setCell ⟨X.b, 1, none⟩ v') := by
  have hrow1 : RowB w1 X.b 72 (wcc v1 v2 v3 v4 X.mb hv s.lam s.item) := (hg.block _ h.row.lt (fun e => own_ne_row h.o2 h.row (by decide) e.symm)).trans h.row
  have hS : ∀ g, g ≠ X.b → (w1.setCell ⟨X.b, 1, none⟩ v').heap[g]? = w1.heap[g]? := fun g hn => Below.heap_setCell w1 ⟨X.b, 1, none⟩ v' g hn
  have hB : ∀ g, K g → g ≠ X.b → some g ≠ v2.ownBlock → (w1.setCell ⟨X.b, 1, none⟩ v').heap[g]? = w.heap[g]? := fun g hk hn hne => (hS g hn).trans (hg.block g (h.lt g hk).2 hne)
  have hM : (w1.setCell ⟨X.b, 1, none⟩ v').heap[X.mb]? = w.heap[X.mb]? := by
    obtain ⟨f, m1, _⟩ := h.mm
    exact hB _ h.km (row_ne_map h.row m1) (fun e => own_ne_map h.o2 m1 e.symm)
  have hH : ∀ g, hv = some g → (w1.setCell ⟨X.b, 1, none⟩ v').heap[g]? = w.heap[g]? := fun g e => by
    have m1 := h.hv_ne e
    exact hB _ (h.kh g e) (row_ne_map h.row m1) (fun e => own_ne_map h.o2 m1 e.symm)
  have hGx := put_gx (grown_gx hg h.k2 hl) (p := ⟨X.b, 1, none⟩) h.kb v'
  have hl1 : (s.ms ++ [x]).length = s.ms.length + 1 := by simp
  have hf1 : (s.ms ++ [x]).flatMap mnC = s.ms.flatMap mnC ++ mnC x := by rw [List.flatMap_append]; simp
  refine ⟨⟨hrow1.put 1 v', ?o1, ?o2, ?o3, ?o4, h.mm.of_block hM, h.mh.of_block hH, h.ne, ?sum, .inl h.kb, .inl h.km, fun g e => .inl (h.kh g e), fun g e => .inl (h.k1 g e), fun g e => .inr e, fun g e => .inl (h.k3 g e), fun g e => .inl (h.k4 g e), ?lt⟩, hGx⟩
  case sum => have := h.sum; show _ + nm + nh ≤ N + 1; simp only [List.length_append, List.length_cons, List.length_nil]; omega
  case lt =>
    intro g hk
    rcases hk with hk | hk
    · exact ⟨(h.lt g hk).1, Nat.lt_of_lt_of_le (h.lt g hk).2 (by simpa [World.setCell] using hg.size)⟩
    · have := ho.lt g hk
      exact ⟨this.1, by simpa [World.setCell] using this.2⟩
  case o1 =>
    refine own_block h.o1 fun g e => hB g (h.k1 g e) (fun e2 => own_ne_row h.o1 h.row (by decide) (e2 ▸ e)) (fun e2 => ?_)
    rcases own_apart h.o2 h.o1 (by decide) with a | a
    · rw [a] at e2; cases e2
    · exact a (e2.symm.trans e.symm)
  case o2 =>
    show World.ownsRow _ X.B 47 4 v' (s.ms ++ [x]).length ((s.ms ++ [x]).flatMap mnC)
    rw [hl1, hf1]
    exact own_block ho fun g e => hS g (fun e2 => own_ne_row ho hrow1 (by decide) (e2 ▸ e))
  case o3 =>
    refine own_block h.o3 fun g e => hB g (h.k3 g e) (fun e2 => own_ne_row h.o3 h.row (by decide) (e2 ▸ e)) (fun e2 => ?_)
    rcases own_apart h.o2 h.o3 (by decide) with a | a
    · rw [a] at e2; cases e2
    · exact a (e2.symm.trans e.symm)
  case o4 =>
    refine own_block h.o4 fun g e => hB g (h.k4 g e) (fun e2 => own_ne_row h.o4 h.row (by decide) (e2 ▸ e)) (fun e2 => ?_)
    rcases own_apart h.o2 h.o4 (by decide) with a | a
    · rw [a] at e2; cases e2
    · exact a (e2.symm.trans e.symm)
theorem WSr.app3 (h : WSr X w K hv s N v1 v2 v3 v4 nm nh) {w1 : World} {v' : Value} {x : Int × Int} (ho : w1.ownsRow X.B 50 2 v' (s.bad.length + 1) (s.bad.flatMap baC ++ baC x)) (hg : w.grownBy w1 v3.ownBlock) (hl : v'.ownBlock = v3.ownBlock ∨ v'.ownBlock = some w.heap.size) :
    WSr X (w1.setCell ⟨X.b, 2, none⟩ v') (KU K v') hv { s with bad := s.bad ++ [x] } (N + 1) v1 v2 v' v4 nm nh ∧ Gx K w (KU K v') (w1.setCell ⟨X.b, 2, none⟩ v') := by
  have hrow1 : RowB w1 X.b 72 (wcc v1 v2 v3 v4 X.mb hv s.lam s.item) := (hg.block _ h.row.lt (fun e => own_ne_row h.o3 h.row (by decide) e.symm)).trans h.row
  have hS : ∀ g, g ≠ X.b → (w1.setCell ⟨X.b, 2, none⟩ v').heap[g]? = w1.heap[g]? := fun g hn => Below.heap_setCell w1 ⟨X.b, 2, none⟩ v' g hn
  have hB : ∀ g, K g → g ≠ X.b → some g ≠ v3.ownBlock → (w1.setCell ⟨X.b, 2, none⟩ v').heap[g]? = w.heap[g]? := fun g hk hn hne => (hS g hn).trans (hg.block g (h.lt g hk).2 hne)
  have hM : (w1.setCell ⟨X.b, 2, none⟩ v').heap[X.mb]? = w.heap[X.mb]? := by
    obtain ⟨f, m1, _⟩ := h.mm
    exact hB _ h.km (row_ne_map h.row m1) (fun e => own_ne_map h.o3 m1 e.symm)
  have hH : ∀ g, hv = some g → (w1.setCell ⟨X.b, 2, none⟩ v').heap[g]? = w.heap[g]? := fun g e => by
    have m1 := h.hv_ne e
    exact hB _ (h.kh g e) (row_ne_map h.row m1) (fun e => own_ne_map h.o3 m1 e.symm)
  have hGx := put_gx (grown_gx hg h.k3 hl) (p := ⟨X.b, 2, none⟩) h.kb v'
  have hl1 : (s.bad ++ [x]).length = s.bad.length + 1 := by simp
  have hf1 : (s.bad ++ [x]).flatMap baC = s.bad.flatMap baC ++ baC x := by rw [List.flatMap_append]; simp
  refine ⟨⟨hrow1.put 2 v', ?o1, ?o2, ?o3, ?o4, h.mm.of_block hM, h.mh.of_block hH, h.ne, ?sum, .inl h.kb, .inl h.km, fun g e => .inl (h.kh g e), fun g e => .inl (h.k1 g e), fun g e => .inl (h.k2 g e), fun g e => .inr e, fun g e => .inl (h.k4 g e), ?lt⟩, hGx⟩
  case sum => have := h.sum; show _ + nm + nh ≤ N + 1; simp only [List.length_append, List.length_cons, List.length_nil]; omega
  case lt =>
    intro g hk
    rcases hk with hk | hk
    · exact ⟨(h.lt g hk).1, Nat.lt_of_lt_of_le (h.lt g hk).2 (by simpa [World.setCell] using hg.size)⟩
    · have := ho.lt g hk
      exact ⟨this.1, by simpa [World.setCell] using this.2⟩
  case o1 =>
    refine own_block h.o1 fun g e => hB g (h.k1 g e) (fun e2 => own_ne_row h.o1 h.row (by decide) (e2 ▸ e)) (fun e2 => ?_)
    rcases own_apart h.o3 h.o1 (by decide) with a | a
    · rw [a] at e2; cases e2
    · exact a (e2.symm.trans e.symm)
  case o2 =>
    refine own_block h.o2 fun g e => hB g (h.k2 g e) (fun e2 => own_ne_row h.o2 h.row (by decide) (e2 ▸ e)) (fun e2 => ?_)
    rcases own_apart h.o3 h.o2 (by decide) with a | a
    · rw [a] at e2; cases e2
    · exact a (e2.symm.trans e.symm)
  case o3 =>
    show World.ownsRow _ X.B 50 2 v' (s.bad ++ [x]).length ((s.bad ++ [x]).flatMap baC)
    rw [hl1, hf1]
    exact own_block ho fun g e => hS g (fun e2 => own_ne_row ho hrow1 (by decide) (e2 ▸ e))
  case o4 =>
    refine own_block h.o4 fun g e => hB g (h.k4 g e) (fun e2 => own_ne_row h.o4 h.row (by decide) (e2 ▸ e)) (fun e2 => ?_)
    rcases own_apart h.o3 h.o4 (by decide) with a | a
    · rw [a] at e2; cases e2
    · exact a (e2.symm.trans e.symm)
theorem WSr.app4 (h : WSr X w K hv s N v1 v2 v3 v4 nm nh) {w1 : World} {v' : Value} {x : Int} (ho : w1.ownsRow X.B 3 1 v' (s.within.length + 1) (s.within.flatMap wiC ++ wiC x)) (hg : w.grownBy w1 v4.ownBlock) (hl : v'.ownBlock = v4.ownBlock ∨ v'.ownBlock = some w.heap.size) :
    WSr X (w1.setCell ⟨X.b, 6, none⟩ v') (KU K v') hv { s with within := s.within ++ [x] } (N + 1) v1 v2 v3 v' nm nh ∧ Gx K w (KU K v') (w1.setCell ⟨X.b, 6, none⟩ v') := by
  have hrow1 : RowB w1 X.b 72 (wcc v1 v2 v3 v4 X.mb hv s.lam s.item) := (hg.block _ h.row.lt (fun e => own_ne_row h.o4 h.row (by decide) e.symm)).trans h.row
  have hS : ∀ g, g ≠ X.b → (w1.setCell ⟨X.b, 6, none⟩ v').heap[g]? = w1.heap[g]? := fun g hn => Below.heap_setCell w1 ⟨X.b, 6, none⟩ v' g hn
  have hB : ∀ g, K g → g ≠ X.b → some g ≠ v4.ownBlock → (w1.setCell ⟨X.b, 6, none⟩ v').heap[g]? = w.heap[g]? := fun g hk hn hne => (hS g hn).trans (hg.block g (h.lt g hk).2 hne)
  have hM : (w1.setCell ⟨X.b, 6, none⟩ v').heap[X.mb]? = w.heap[X.mb]? := by
    obtain ⟨f, m1, _⟩ := h.mm
    exact hB _ h.km (row_ne_map h.row m1) (fun e => own_ne_map h.o4 m1 e.symm)
  have hH : ∀ g, hv = some g → (w1.setCell ⟨X.b, 6, none⟩ v').heap[g]? = w.heap[g]? := fun g e => by
    have m1 := h.hv_ne e
    exact hB _ (h.kh g e) (row_ne_map h.row m1) (fun e => own_ne_map h.o4 m1 e.symm)
  have hGx := put_gx (grown_gx hg h.k4 hl) (p := ⟨X.b, 6, none⟩) h.kb v'
  have hl1 : (s.within ++ [x]).length = s.within.length + 1 := by simp
  have hf1 : (s.within ++ [x]).flatMap wiC = s.within.flatMap wiC ++ wiC x := by rw [List.flatMap_append]; simp
  refine ⟨⟨hrow1.put 6 v', ?o1, ?o2, ?o3, ?o4, h.mm.of_block hM, h.mh.of_block hH, h.ne, ?sum, .inl h.kb, .inl h.km, fun g e => .inl (h.kh g e), fun g e => .inl (h.k1 g e), fun g e => .inl (h.k2 g e), fun g e => .inl (h.k3 g e), fun g e => .inr e, ?lt⟩, hGx⟩
  case sum => have := h.sum; show _ + nm + nh ≤ N + 1; simp only [List.length_append, List.length_cons, List.length_nil]; omega
  case lt =>
    intro g hk
    rcases hk with hk | hk
    · exact ⟨(h.lt g hk).1, Nat.lt_of_lt_of_le (h.lt g hk).2 (by simpa [World.setCell] using hg.size)⟩
    · have := ho.lt g hk
      exact ⟨this.1, by simpa [World.setCell] using this.2⟩
  case o1 =>
    refine own_block h.o1 fun g e => hB g (h.k1 g e) (fun e2 => own_ne_row h.o1 h.row (by decide) (e2 ▸ e)) (fun e2 => ?_)
    rcases own_apart h.o4 h.o1 (by decide) with a | a
    · rw [a] at e2; cases e2
    · exact a (e2.symm.trans e.symm)
  case o2 =>
    refine own_block h.o2 fun g e => hB g (h.k2 g e) (fun e2 => own_ne_row h.o2 h.row (by decide) (e2 ▸ e)) (fun e2 => ?_)
    rcases own_apart h.o4 h.o2 (by decide) with a | a
    · rw [a] at e2; cases e2
    · exact a (e2.symm.trans e.symm)
  case o3 =>
    refine own_block h.o3 fun g e => hB g (h.k3 g e) (fun e2 => own_ne_row h.o3 h.row (by decide) (e2 ▸ e)) (fun e2 => ?_)
    rcases own_apart h.o4 h.o3 (by decide) with a | a
    · rw [a] at e2; cases e2
    · exact a (e2.symm.trans e.symm)
  case o4 =>
    show World.ownsRow _ X.B 3 1 v' (s.within ++ [x]).length ((s.within ++ [x]).flatMap wiC)
    rw [hl1, hf1]
    exact own_block ho fun g e => hS g (fun e2 => own_ne_row ho hrow1 (by decide) (e2 ▸ e))
theorem WSr.means_put (h : WSr X w K hv s N v1 v2 v3 v4 nm nh) {w1 : World} {f : ByteArray → Int} (hm : MM w1 X.mb (nm + 1) f) (hg : w.grownBy w1 (some X.mb)) :
    WSr X w1 K hv { s with means := f } (N + 1) v1 v2 v3 v4 (nm + 1) nh ∧ Gx K w K w1 := by
  have hB : ∀ g, K g → g ≠ X.mb → w1.heap[g]? = w.heap[g]? := fun g hk hn => hg.block g (h.lt g hk).2 (fun e => hn (by injection e))
  obtain ⟨f0, m1, _⟩ := h.mm
  refine ⟨⟨(hB _ h.kb (fun e => row_ne_map h.row m1 e.symm)).trans h.row, own_block h.o1 fun g e => hB g (h.k1 g e) (fun e2 => own_ne_map h.o1 m1 (e2 ▸ e)), own_block h.o2 fun g e => hB g (h.k2 g e) (fun e2 => own_ne_map h.o2 m1 (e2 ▸ e)),
    own_block h.o3 fun g e => hB g (h.k3 g e) (fun e2 => own_ne_map h.o3 m1 (e2 ▸ e)), own_block h.o4 fun g e => hB g (h.k4 g e) (fun e2 => own_ne_map h.o4 m1 (e2 ▸ e)), hm, h.mh.of_block fun g e => hB g (h.kh g e) (fun e2 => h.ne (e2 ▸ e)), h.ne, ?_, h.kb, h.km, h.kh, h.k1, h.k2, h.k3, h.k4, ?_⟩, ?_⟩
  · have := h.sum; show s.bs.length + s.ms.length + s.bad.length + s.within.length + (nm + 1) + nh ≤ N + 1; omega
  · exact fun g hk => ⟨(h.lt g hk).1, Nat.lt_of_lt_of_le (h.lt g hk).2 hg.size⟩
  · exact ⟨hg.os, hg.tape, hg.output, hg.size, fun g h1 hn => hg.block g h1 (fun e => hn (by injection e with e; rw [e]; exact h.km)), fun g h => .inl h⟩
theorem WSr.here_put {hb : Nat} (h : WSr X w K (some hb) s N v1 v2 v3 v4 nm nh) {w1 : World} {f : ByteArray → Option Int} (hm : MF w1 hb (nh + 1) f) (hg : w.grownBy w1 (some hb)) :
    WSr X w1 K (some hb) { s with here := f } (N + 1) v1 v2 v3 v4 nm (nh + 1) ∧ Gx K w K w1 := by
  have hB : ∀ g, K g → g ≠ hb → w1.heap[g]? = w.heap[g]? := fun g hk hn => hg.block g (h.lt g hk).2 (fun e => hn (by injection e))
  have m1 : MF w hb nh s.here := h.mh
  refine ⟨⟨(hB _ h.kb (fun e => row_ne_map h.row m1 e.symm)).trans h.row, own_block h.o1 fun g e => hB g (h.k1 g e) (fun e2 => own_ne_map h.o1 m1 (e2 ▸ e)), own_block h.o2 fun g e => hB g (h.k2 g e) (fun e2 => own_ne_map h.o2 m1 (e2 ▸ e)),
    own_block h.o3 fun g e => hB g (h.k3 g e) (fun e2 => own_ne_map h.o3 m1 (e2 ▸ e)), own_block h.o4 fun g e => hB g (h.k4 g e) (fun e2 => own_ne_map h.o4 m1 (e2 ▸ e)), h.mm.of_block (hB _ h.km (fun e => h.ne (by rw [e]))), hm, h.ne, ?_, h.kb, h.km, h.kh, h.k1, h.k2, h.k3, h.k4, ?_⟩, ?_⟩
  · have := h.sum; show s.bs.length + s.ms.length + s.bad.length + s.within.length + nm + (nh + 1) ≤ N + 1; omega
  · exact fun g hk => ⟨(h.lt g hk).1, Nat.lt_of_lt_of_le (h.lt g hk).2 hg.size⟩
  · exact ⟨hg.os, hg.tape, hg.output, hg.size, fun g h1 hn => hg.block g h1 (fun e => hn (by injection e with e; rw [e]; exact h.kh hb rfl)), fun g h => .inl h⟩
theorem WSr.put_any (h : WSr X w K hv s N v1 v2 v3 v4 nm nh) {j : Nat} {u : Value} {t : St} (hr : RowB (w.setCell ⟨X.b, j, none⟩ u) X.b 72 (wcc v1 v2 v3 v4 X.mb hv t.lam t.item)) (e1 : t.bs = s.bs) (e2 : t.ms = s.ms) (e3 : t.bad = s.bad) (e4 : t.within = s.within) (e5 : t.means = s.means) (e6 : t.here = s.here) :
    WSr X (w.setCell ⟨X.b, j, none⟩ u) K hv t N v1 v2 v3 v4 nm nh ∧ Gx K w K (w.setCell ⟨X.b, j, none⟩ u) := by
  have hB : ∀ g, g ≠ X.b → (w.setCell ⟨X.b, j, none⟩ u).heap[g]? = w.heap[g]? := fun g hn => Below.heap_setCell w ⟨X.b, j, none⟩ u g hn
  obtain ⟨f0, m1, _⟩ := h.mm
  refine ⟨⟨hr, ?_, ?_, ?_, ?_, ?_, ?_, h.ne, by rw [e1, e2, e3, e4]; exact h.sum, h.kb, h.km, h.kh, h.k1, h.k2, h.k3, h.k4, fun g hk => ⟨(h.lt g hk).1, by simpa [World.setCell] using (h.lt g hk).2⟩⟩, put_gx (Gx.refl K w) (p := ⟨X.b, j, none⟩) h.kb u⟩
  · rw [e1]; exact own_block h.o1 fun g e => hB g (fun e2 => own_ne_row h.o1 h.row (by decide) (e2 ▸ e))
  · rw [e2]; exact own_block h.o2 fun g e => hB g (fun e2 => own_ne_row h.o2 h.row (by decide) (e2 ▸ e))
  · rw [e3]; exact own_block h.o3 fun g e => hB g (fun e2 => own_ne_row h.o3 h.row (by decide) (e2 ▸ e))
  · rw [e4]; exact own_block h.o4 fun g e => hB g (fun e2 => own_ne_row h.o4 h.row (by decide) (e2 ▸ e))
  · rw [e5]; exact h.mm.of_block (hB _ (row_ne_map h.row m1))
  · rw [e6]; exact h.mh.of_block fun g e => hB g (row_ne_map h.row (h.hv_ne e))
theorem WSr.put_lam (h : WSr X w K hv s N v1 v2 v3 v4 nm nh) (l : Int) : WSr X (w.setCell ⟨X.b, 5, none⟩ (.int .i64 l)) K hv { s with lam := l } N v1 v2 v3 v4 nm nh ∧ Gx K w K (w.setCell ⟨X.b, 5, none⟩ (.int .i64 l)) :=
  h.put_any (t := { s with lam := l }) (h.row.put 5 _) rfl rfl rfl rfl rfl rfl
theorem WSr.put_item (h : WSr X w K hv s N v1 v2 v3 v4 nm nh) (l : Int) : WSr X (w.setCell ⟨X.b, 7, none⟩ (.int .i64 l)) K hv { s with item := l } N v1 v2 v3 v4 nm nh ∧ Gx K w K (w.setCell ⟨X.b, 7, none⟩ (.int .i64 l)) :=
  h.put_any (t := { s with item := l }) (h.row.put 7 _) rfl rfl rfl rfl rfl rfl
theorem WSr.put_here (h : WSr X w K hv s N v1 v2 v3 v4 nm nh) {hv' : Option Nat} {n' N' : Nat} {f : ByteArray → Option Int} {K' : Nat → Prop} (hH : HM w hv' n' f) (hne : hv' ≠ some X.mb) (hK : ∀ g, K g → some g ≠ hv → K' g) (hK' : ∀ g, hv' = some g → K' g) (hKl : ∀ g, K' g → K g ∨ hv' = some g) (hl : ∀ g, hv' = some g → X.B ≤ g ∧ g < w.heap.size)
    (hN : s.bs.length + s.ms.length + s.bad.length + s.within.length + nm + n' ≤ N') :
    WSr X (w.setCell ⟨X.b, 4, none⟩ (.map hv')) K' hv' { s with here := f } N' v1 v2 v3 v4 nm n' ∧ ∀ g, g ≠ X.b → (w.setCell ⟨X.b, 4, none⟩ (.map hv')).heap[g]? = w.heap[g]? := by
  have hB : ∀ g, g ≠ X.b → (w.setCell ⟨X.b, 4, none⟩ (.map hv')).heap[g]? = w.heap[g]? := fun g hn => Below.heap_setCell w ⟨X.b, 4, none⟩ (.map hv') g hn
  obtain ⟨f0, m1, _⟩ := h.mm
  refine ⟨⟨h.row.put 4 _, own_block h.o1 fun g e => hB g (fun e2 => own_ne_row h.o1 h.row (by decide) (e2 ▸ e)), own_block h.o2 fun g e => hB g (fun e2 => own_ne_row h.o2 h.row (by decide) (e2 ▸ e)), own_block h.o3 fun g e => hB g (fun e2 => own_ne_row h.o3 h.row (by decide) (e2 ▸ e)),
    own_block h.o4 fun g e => hB g (fun e2 => own_ne_row h.o4 h.row (by decide) (e2 ▸ e)), h.mm.of_block (hB _ (row_ne_map h.row m1)), hH.of_block fun g e => hB g ?_, hne, hN, hK _ h.kb ?_, hK _ h.km (fun e => h.ne e.symm), hK', ?_, ?_, ?_, ?_, ?_⟩, hB⟩
  · have m2 : MF w g n' f := by have := hH; rw [e] at this; exact this
    exact row_ne_map h.row m2
  · exact fun e => row_ne_map h.row (h.hv_ne e.symm) rfl
  · exact fun g e => hK g (h.k1 g e) (fun e2 => own_ne_map h.o1 (h.hv_ne e2.symm) e)
  · exact fun g e => hK g (h.k2 g e) (fun e2 => own_ne_map h.o2 (h.hv_ne e2.symm) e)
  · exact fun g e => hK g (h.k3 g e) (fun e2 => own_ne_map h.o3 (h.hv_ne e2.symm) e)
  · exact fun g e => hK g (h.k4 g e) (fun e2 => own_ne_map h.o4 (h.hv_ne e2.symm) e)
  · intro g hg
    rcases hKl g hg with h1 | h1
    · exact ⟨(h.lt g h1).1, by simpa [World.setCell] using (h.lt g h1).2⟩
    · exact ⟨(hl g h1).1, by simpa [World.setCell] using (hl g h1).2⟩
theorem app_at {w : World} {t e size bytes : Nat} {z : Value} (ht : Try.prog.underlying t = some (.slice e)) (hi : (Try.prog.info? e).map (fun i => (i.zero, i.size, i.bytes)) = some (some z, size, bytes)) (hzs : z.cells.size = size) (hsz : 0 < size) (hby : bytes ≤ 64)
    (base : Nat) (v : Value) (n : Nat) (xs : List Value) (hown : w.ownsRow base e size v n xs) (blk : Nat) (cs : Array Value) (hr : RowB w blk e cs) (hl : cs.size = size) (h1 : ∀ u ∈ cs.toList, u.oneCell' = true) (hn : n ≤ 1000000000) (hbase : base ≤ w.heap.size) (ty : TypeId) :
    ∃ v' w', (Builtin.append_ #[t, t] ty #[v, .slice (some ⟨blk, 0, none⟩) 1 1]).run Try.prog w = .ok v' w' ∧ w'.ownsRow base e size v' (n + 1) (xs ++ cs.toList) ∧ w.grownBy w' v.ownBlock ∧ (v'.ownBlock = v.ownBlock ∨ v'.ownBlock = some w.heap.size) := by
  cases hi' : Try.prog.info? e with
  | none => rw [hi'] at hi; cases hi
  | some i =>
    rw [hi'] at hi
    simp only [Option.map_some, Option.some.injEq, Prod.mk.injEq] at hi
    have hb2 : (n + 1) * bytes ≤ 140737488355328 := Nat.le_trans (Nat.mul_le_mul_left _ hby) (by omega)
    obtain ⟨v', w', a1, a2, a3, _, a5⟩ := run_append_own_at (P := Try.prog) w base t ty e i z size bytes ht hi' hi.1 hi.2.1 hi.2.2 hzs hsz v n xs hown ⟨blk, 0, none⟩ 1 1 cs.toList (by simpa using hl) (fun j u hj => by
      have : (⟨blk, 0, none⟩ : Addr).add j = ⟨blk, j, none⟩ := by unfold Addr.add; split <;> simp_all
      rw [this, hr.cell j, ← Array.getElem?_toList]
      exact hj) h1 (by simp only [maxLen]; omega) hb2 hbase
    exact ⟨v', w', a1, a2, a3, a5⟩
end Sc
end Go.Proofs.Ytnefnnoleeeedaa
namespace Go.Proofs.Ytnefnnoleeeedaa
open Go.RowKit Go.Op
namespace Sc
set_option maxHeartbeats 4000000 in
set_option maxRecDepth 100000 in
theorem meant_any {X : Wc} {w : World} {K : Nat → Prop} {hv : Option Nat} {s : St} {N nm nh : Nat} {v1 v2 v3 v4 : Value} (h : WSr X w K hv s N v1 v2 v3 v4 nm nh) {x : ByteArray} (hx : x.size ≤ maxLen) :
    Calls Try.prog 63 #[X.p, .string x] w fun e w' => e = .returned (.int .i64 (s.means x)) ∧ w' = w := by
  obtain ⟨g, m1, hg⟩ := h.mm
  have hgx := hg x
  have hlk := m1.look Try.underlying69 hx
  have c1 : w.cell? ⟨X.b, 3, none⟩ = some (.map (some X.mb)) := by rw [h.row.cell 3]; simp [wcc]
  obtain ⟨b, mb, B⟩ := X
  simp only at *
  obtain ⟨r, hr⟩ : ∃ r, r = s.means x := ⟨_, rfl⟩
  rw [← hr] at hgx ⊢
  clear h m1 hg hr
  cases e : g x with
  | none =>
    rw [e] at hlk hgx
    simp only [Option.getD_none, Option.isSome_none] at hlk hgx
    subst hgx
    clear e
    go_enter Try.func63, Try.ntmps63
    go_wp2
    (first | go_ret | go_ret2)
    exact ⟨rfl, rfl⟩
  | some v =>
    rw [e] at hlk hgx
    simp only [Option.getD_some, Option.isSome_some] at hlk hgx
    subst hgx
    clear e
    go_enter Try.func63, Try.ntmps63
    go_wp2
    (first | go_ret | go_ret2)
    exact ⟨rfl, rfl⟩
end Sc
end Go.Proofs.Ytnefnnoleeeedaa
namespace Go.Proofs.Ytnefnnoleeeedaa
open Go.RowKit Go.Op
namespace Vm
section
variable {P : Program} {ops : Array Oper} {Q : Exit → Act → World → Prop} {md : Region.Mode} {S : Array Bool → World → Prop}
def wpG (P : Program) (md : Region.Mode) (ops : Array Oper) (Q : Exit → Act → World → Prop) (S : Array Bool → World → Prop) : Nat → Array Bool → Act → World → Prop
  | 0, listed, a, w => Region.ready md ops listed = [] ∧ Q .normal a w
  | fuel + 1, listed, a, w =>
    (Region.ready md ops listed = [] → Q .normal a w) ∧
    ∀ i ∈ Region.ready md ops listed, wpOp P ops Q i (fun a' w' => S (listed.setIfInBounds i true) w' ∧ wpG P md ops Q S fuel (listed.setIfInBounds i true) a' w') a w
theorem wpG_any : ∀ (fuel : Nat) (listed : Array Bool) (a : Act) (w : World), wpG P md ops Q S fuel listed a w → wpAny P md ops Q fuel listed a w
  | 0, _, _, _, h => h
  | fuel + 1, _, _, _, h => ⟨h.1, fun i hi => wpOp_mono (fun a' w' h' => wpG_any fuel _ a' w' h'.2) (h.2 i hi)⟩
theorem wpG_first {i : Nat} {oi : Oper} {v : Value} {G : Array Bool → Prop} (hi : ops[i]? = some oi) (hsel : ∀ (j : Nat) (o : Oper) cs b, ops[j]? = some o → o.op ≠ .select cs b)
    (hQ : ∀ c a w, Q (.panic c) (a.put oi.dst v) w → Q (.panic c) a w) (hmono : ∀ l w, S (l.setIfInBounds i true) w → S l w)
    (hG : ∀ l j, G l → i ∈ Region.ready md ops l → j ∈ Region.ready md ops l → j ≠ i → G (l.setIfInBounds j true)) :
    ∀ (fuel : Nat) (listed : Array Bool) (a : Act) (w : World),
      (∀ j oj, ops[j]? = some oj → j ≠ i → listed.getD j true = false → (∀ e ∈ oj.after, Region.binds md e = true → e.on ≠ i) → oi.apart ops oj = true) →
      i ∈ Region.ready md ops listed → YieldsIf P ops (fun w => ∃ l, G l ∧ S l w) oi v a → G listed → S listed w → S (listed.setIfInBounds i true) w →
      wpG P md ops Q S fuel (listed.setIfInBounds i true) (a.put oi.dst v) w → wpG P md ops Q S (fuel + 1) listed a w := by
  intro fuel
  induction fuel with
  | zero =>
    intro listed a w _ hr hy hg hS hS' H
    refine ⟨fun h => (by rw [h] at hr; cases hr), fun j hj => ?_⟩
    by_cases hji : j = i
    · subst hji; exact hy.wpOp hi ⟨_, hg, hS⟩ ⟨hS', H⟩
    · have := ready_mono hj hji
      rw [H.1] at this
      cases this
  | succ fuel ih =>
    intro listed a w hfree hr hy hg hS hS' H
    refine ⟨fun h => (by rw [h] at hr; cases hr), fun j hj => ?_⟩
    by_cases hji : j = i
    · subst hji; exact hy.wpOp hi ⟨_, hg, hS⟩ ⟨hS', H⟩
    · have h1 := H.2 j (ready_mono hj hji)
      obtain ⟨hjun, oj, hoj, hall⟩ := mem_ready.1 hj
      have hnot : ∀ e ∈ oj.after, Region.binds md e = true → e.on ≠ i := fun e he hb heq => by
        have h1 := hall e he hb
        have h0 := (mem_ready.1 hr).1
        rw [heq] at h1
        rcases Nat.lt_or_ge i listed.size with h' | h'
        · simp [h'] at h0 h1; rw [h0] at h1; cases h1
        · simp [Array.getElem?_eq_none h'] at h1
      have h2 := wpOp_putIf hoj (hfree j oj hoj hji hjun hnot) (fun cs b => hsel i oi cs b hi) (fun cs b => hsel j oj cs b hoj) hQ hy h1
      have hfree' : ∀ k ok, ops[k]? = some ok → k ≠ i → (listed.setIfInBounds j true).getD k true = false →
          (∀ e ∈ ok.after, Region.binds md e = true → e.on ≠ i) → oi.apart ops ok = true := fun k ok hk hki hun hno => by
        refine hfree k ok hk hki ?_ hno
        by_cases hjk : j = k
        · subst hjk; exact hjun
        · rw [getD_set_ne true hjk] at hun; exact hun
      refine wpOp_mono (fun a' w' h3 => ?_) h2
      have hs := h3.2.1
      rw [Array.setIfInBounds_comm _ _ (Ne.symm hji)] at hs
      have hs2 := hmono _ _ hs
      refine ⟨hs2, ih (listed.setIfInBounds j true) a' w' hfree' (ready_mono hr (Ne.symm hji)) h3.1 (hG _ _ hg hr hj hji) hs2 hs ?_⟩
      rw [Array.setIfInBounds_comm _ _ hji]
      exact h3.2.2
def SG (S0 : World → Prop) (m1 : Nat) (A1 : World → Prop) (m2 : Nat) (A2 : World → Prop) (l : Array Bool) (w : World) : Prop := S0 w ∧ (l.getD m1 true = false → A1 w) ∧ (l.getD m2 true = false → A2 w)
variable {S0 A1 A2 : World → Prop} {m1 m2 : Nat}
theorem SG.mono {i : Nat} (h1 : i ≠ m1) (h2 : i ≠ m2) (l : Array Bool) (w : World) (h : SG S0 m1 A1 m2 A2 (l.setIfInBounds i true) w) : SG S0 m1 A1 m2 A2 l w := by
  unfold SG at *
  rw [getD_set_ne true h1, getD_set_ne true h2] at h
  exact h
theorem SG.set {i : Nat} {l : Array Bool} {w : World} (h1 : i ≠ m1) (h2 : i ≠ m2) (h : SG S0 m1 A1 m2 A2 l w) : SG S0 m1 A1 m2 A2 (l.setIfInBounds i true) w := by
  unfold SG at *
  rw [getD_set_ne true h1, getD_set_ne true h2]
  exact h
theorem wpG_take0 {i : Nat} {oi : Oper} {v : Value} {fuel : Nat} {listed : Array Bool} {a : Act} {w : World} (hi : ops.toList[i]? = some oi)
    (hs : Region.noSelect ops = true) (hf : Region.free md ops listed i = true) (hr : (Region.ready md ops listed).contains i = true) (h1 : i ≠ m1) (h2 : i ≠ m2)
    (hQ : ∀ c a w, Q (.panic c) (a.put oi.dst v) w → Q (.panic c) a w) (hS : SG S0 m1 A1 m2 A2 listed w) (hy : YieldsIf P ops S0 oi v a)
    (h : wpG P md ops Q (SG S0 m1 A1 m2 A2) fuel (listed.setIfInBounds i true) (a.put oi.dst v) w) : wpG P md ops Q (SG S0 m1 A1 m2 A2) (fuel + 1) listed a w := by
  have hi' : ops[i]? = some oi := by rw [← Array.getElem?_toList]; exact hi
  exact wpG_first (G := fun _ => True) hi' (Region.noSelect_spec hs) hQ (SG.mono h1 h2) (fun _ _ _ _ _ _ => trivial) fuel listed a w (Region.free_spec hi' hf) (by simpa using hr)
    (hy.imp (fun h => ⟨h.1, fun w ⟨_, _, hw⟩ => h.2 w hw.1⟩) id) trivial hS (hS.set h1 h2) h
def waits (md : Region.Mode) (ops : Array Oper) (m i : Nat) : Bool := match ops[m]? with
  | some o => o.after.any fun e => Region.binds md e && e.on == i
  | none => false
theorem waits_stays {m i j : Nat} (hw : waits md ops m i = true) {l : Array Bool} (hi : i ∈ Region.ready md ops l) (hj : j ∈ Region.ready md ops l) : j ≠ m := by
  rintro rfl
  obtain ⟨_, o, ho, hall⟩ := mem_ready.1 hj
  unfold waits at hw
  rw [ho] at hw
  simp only [Array.any_eq_true] at hw
  obtain ⟨k, hk, he⟩ := hw
  rw [Bool.and_eq_true, beq_iff_eq] at he
  have h1 := hall _ (Array.getElem_mem hk) he.1
  rw [he.2] at h1
  have h0 := (mem_ready.1 hi).1
  rcases Nat.lt_or_ge i l.size with h' | h'
  · simp [h'] at h0 h1; rw [h0] at h1; cases h1
  · simp [Array.getElem?_eq_none h'] at h1
theorem wpG_take1 {i : Nat} {oi : Oper} {v : Value} {fuel : Nat} {listed : Array Bool} {a : Act} {w : World} (hi : ops.toList[i]? = some oi)
    (hs : Region.noSelect ops = true) (hf : Region.free md ops listed i = true) (hr : (Region.ready md ops listed).contains i = true) (h1 : i ≠ m1) (h2 : i ≠ m2) (hw : waits md ops m1 i = true) (hu : listed.getD m1 true = false)
    (hQ : ∀ c a w, Q (.panic c) (a.put oi.dst v) w → Q (.panic c) a w) (hS : SG S0 m1 A1 m2 A2 listed w) (hy : YieldsIf P ops (fun w => S0 w ∧ A1 w) oi v a)
    (h : wpG P md ops Q (SG S0 m1 A1 m2 A2) fuel (listed.setIfInBounds i true) (a.put oi.dst v) w) : wpG P md ops Q (SG S0 m1 A1 m2 A2) (fuel + 1) listed a w := by
  have hi' : ops[i]? = some oi := by rw [← Array.getElem?_toList]; exact hi
  refine wpG_first (G := fun l => l.getD m1 true = false) hi' (Region.noSelect_spec hs) hQ (SG.mono h1 h2) (fun l j hg hir hjr _ => ?_) fuel listed a w (Region.free_spec hi' hf) (by simpa using hr)
    (hy.imp (fun h => ⟨h.1, fun w ⟨_, hg, hw⟩ => h.2 w ⟨hw.1, hw.2.1 hg⟩⟩) id) hu hS (hS.set h1 h2) h
  rw [getD_set_ne true (waits_stays hw hir hjr)]
  exact hg
theorem pL : (∀ (a : Act) (d : Nat) (v : Value), a.put (some d) v = ⟨a.tmps.setIfInBounds d v, a.defers⟩) ∧ (∀ (a : Act) (v : Value), a.put none v = a) ∧ (∀ {α : Type} (xs : List α) (i : Nat) (x : α), xs.toArray.setIfInBounds i x = (xs.set i x).toArray) ∧ (∀ {α : Type} (y : α) (xs : List α) (x : α), (y :: xs).set 0 x = x :: xs) ∧ (∀ {α : Type} (y : α) (xs : List α) (i : Nat) (x : α), (y :: xs).set (i + 1) x = y :: xs.set i x) :=
  ⟨fun _ _ _ => rfl, fun _ _ => rfl, fun _ _ _ => List.setIfInBounds_toArray .., fun _ _ _ => rfl, fun _ _ _ _ => rfl⟩
theorem wpG_t0 {i : Nat} {oi : Oper} {v : Value} {fuel : Nat} {listed : Array Bool} {a : Act} {w : World} (hi : ops.toList[i]? = some oi)
    (hb : (Region.noSelect ops && Region.free md ops listed i && (Region.ready md ops listed).contains i && decide (i ≠ m1) && decide (i ≠ m2)) = true)
    (hQ : ∀ c a w, Q (.panic c) (a.put oi.dst v) w → Q (.panic c) a w) (hS : SG S0 m1 A1 m2 A2 listed w) (hy : YieldsIf P ops S0 oi v a)
    (h : wpG P md ops Q (SG S0 m1 A1 m2 A2) fuel (listed.setIfInBounds i true) (a.put oi.dst v) w) : wpG P md ops Q (SG S0 m1 A1 m2 A2) (fuel + 1) listed a w := by
  simp only [Bool.and_eq_true, decide_eq_true_eq] at hb
  exact wpG_take0 hi hb.1.1.1.1 hb.1.1.1.2 hb.1.1.2 hb.1.2 hb.2 hQ hS hy h
theorem wpG_t1 {i : Nat} {oi : Oper} {v : Value} {fuel : Nat} {listed : Array Bool} {a : Act} {w : World} (hi : ops.toList[i]? = some oi)
    (hb : (Region.noSelect ops && Region.free md ops listed i && (Region.ready md ops listed).contains i && decide (i ≠ m1) && decide (i ≠ m2) && waits md ops m1 i && !(listed.getD m1 true)) = true)
    (hQ : ∀ c a w, Q (.panic c) (a.put oi.dst v) w → Q (.panic c) a w) (hS : SG S0 m1 A1 m2 A2 listed w) (hy : YieldsIf P ops (fun w => S0 w ∧ A1 w) oi v a)
    (h : wpG P md ops Q (SG S0 m1 A1 m2 A2) fuel (listed.setIfInBounds i true) (a.put oi.dst v) w) : wpG P md ops Q (SG S0 m1 A1 m2 A2) (fuel + 1) listed a w := by
  simp only [Bool.and_eq_true, decide_eq_true_eq, Bool.not_eq_true'] at hb
  exact wpG_take1 hi hb.1.1.1.1.1.1 hb.1.1.1.1.1.2 hb.1.1.1.1.2 hb.1.1.1.2 hb.1.1.2 hb.1.2 hb.2 hQ hS hy h
def RG (P : Program) (md : Region.Mode) (ops : Array Oper) (Q : Exit → Act → World → Prop) (S : Array Bool → World → Prop) (fuel : Nat) (listed : Array Bool) (a : Act) (w : World) (rs : List Nat) : Prop :=
  ∀ i ∈ rs, wpOp P ops Q i (fun a' w' => S (listed.setIfInBounds i true) w' ∧ wpG P md ops Q S fuel (listed.setIfInBounds i true) a' w') a w
theorem RG.nil {fuel : Nat} {listed : Array Bool} {a : Act} {w : World} : RG P md ops Q S fuel listed a w [] := fun _ h => by cases h
theorem RG.cons {fuel : Nat} {listed : Array Bool} {a : Act} {w : World} {i : Nat} {o : Oper} {rs : List Nat} (ho : ops.toList[i]? = some o) (hg : o.guard = none)
    (h : ∀ K' : Act → World → Prop, Shut (∀ a w, S (listed.setIfInBounds i true) w → (S (listed.setIfInBounds i true) w → wpG P md ops Q S fuel (listed.setIfInBounds i true) a w) → K' a w) → Oper.wp P o a w K' Q)
    (hs : RG P md ops Q S fuel listed a w rs) : RG P md ops Q S fuel listed a w (i :: rs) := fun j hj => by
  have ho' : ops[i]? = some o := by rw [← Array.getElem?_toList]; exact ho
  rcases List.mem_cons.1 hj with rfl | hj
  · refine wpOp_step ho' (fun K' hK => ?_)
    rw [if_pos (by simp [Region.wanted, hg])]
    exact h K' (fun a w hS hW => hK a w ⟨hS, hW hS⟩)
  · exact hs j hj
theorem wpG_ready {rs : List Nat} {fuel : Nat} {listed : Array Bool} {a : Act} {w : World} (hr : Region.ready md ops listed = rs) (hne : rs ≠ [])
    (h : RG P md ops Q S fuel listed a w rs) : wpG P md ops Q S (fuel + 1) listed a w := ⟨fun h0 => absurd (hr ▸ h0) hne, hr ▸ h⟩
theorem wpG_done {listed : Array Bool} {a : Act} {w : World} (hr : Region.ready md ops listed = []) (h : Q .normal a w) :
    ∀ fuel, wpG P md ops Q S fuel listed a w
  | 0 => ⟨hr, h⟩
  | _ + 1 => ⟨fun _ => h, by rw [hr]; simp⟩
theorem wp_region_G {id : Nat} {a : Act} {w : World} (hm : P.follows .mixedOrders = true) (hS : S (Array.replicate ops.size false) w.drew)
    (h : S (Array.replicate ops.size false) w.drew → wpG P .any ops Q S ops.size (Array.replicate ops.size false) a w.drew) : (Code.region id ops true).wp P Q a w :=
  wp_region_any hm (wpG_any _ _ _ _ (h hS))
end
section
variable {P : Program} {ops : Array Oper} {Q : Exit → Act → World → Prop} {md : Region.Mode} {S : Array Bool → World → Prop}
end
section
variable {P : Program} {ops : Array Oper} {Q : Exit → Act → World → Prop} {md : Region.Mode} {S : Array Bool → World → Prop}
end
end Vm
end Go.Proofs.Ytnefnnoleeeedaa
namespace Go.Proofs.Ytnefnnoleeeedaa
open Go.RowKit Go.Op
namespace Sc
open Vm
def WS (X : Wc) (w : World) (K : Nat → Prop) (hv : Option Nat) (s : St) (N : Nat) : Prop := ∃ v1 v2 v3 v4 nm nh, WSr X w K hv s N v1 v2 v3 v4 nm nh
def Ans (X : Wc) (w : World) (K : Nat → Prop) (hv : Option Nat) (t : St) (N : Nat) (e : Ending) (w' : World) : Prop := e = .returned (.tuple #[]) ∧ ∃ K', WS X w' K' hv t N ∧ Gx K w K' w'
set_option maxHeartbeats 8000000 in
set_option maxRecDepth 100000 in
theorem wrong_any {X : Wc} {w : World} {K : Nat → Prop} {hv : Option Nat} {s : St} {N nm nh : Nat} {v1 v2 v3 v4 : Value} (h : WSr X w K hv s N v1 v2 v3 v4 nm nh) (n : Hi) (A : Option Addr) (k c : Nat) (er : Int) (hN : N ≤ 1000000000) :
    Calls Try.prog 62 #[X.p, hvv n A k c, .int .i64 er] w (Ans X w K hv (s.wrong n.at_ er) (N + 1)) := by
  have h1 := h.alloc (.cells (hcc n A k c) 25)
  have RB := RowB.new w 25 (hcc n A k c)
  have H1 := Lib.hid h1
  have G1 := Lib.hid (Gx.alloc K w (.cells (hcc n A k c) 25))
  have HR := Lib.hid RB
  obtain ⟨b, mb, B⟩ := X
  simp only [hcc] at *
  clear h h1 RB
  go_enter Try.func62, Try.ntmps62
  go_wp2_with fail
  obtain ⟨W1, hW1⟩ : ∃ W1, W1 = w.alloc (.cells (#[.int .i64 n.kind, .int .i64 n.fro, .int .i64 n.til, .string n.word, .int .i64 n.at_, .slice A k c] : Array Value) 25) := ⟨_, rfl⟩
  rw [← hW1] at H1 G1 HR ⊢
  clear hW1
  obtain ⟨bx, hbx⟩ : ∃ bx, bx = w.heap.size := ⟨_, rfl⟩
  rw [← hbx] at HR ⊢
  clear hbx
  refine wp_region_G (S := SG (fun _ => True) 15 (fun w' => RowB w' b 72 (wcc v1 v2 v3 v4 mb hv s.lam s.item) ∧ RowB w' bx 25 #[.int .i64 n.kind, .int .i64 n.fro, .int .i64 n.til, .string n.word, .int .i64 n.at_, .slice A k c]) 99 (fun _ => True)) (by kernel_rfl) ⟨trivial, fun _ => ⟨H1.out.row, HR.out⟩, fun _ => trivial⟩ (fun hS => ?_)
  obtain ⟨WD, hWD⟩ : ∃ WD, WD = W1.drew := ⟨_, rfl⟩
  have H1 := Lib.hid (H1.out.drew)
  have G1 := Lib.hid (G1.out.trans (Gx.drew _ W1))
  replace HR := Lib.hid (show RowB W1.drew _ _ _ from HR.out)
  rw [← hWD] at hS H1 G1 HR ⊢
  clear hWD
  refine wpG_t1 (i := 0) (v := ?v1) rfl (by kernel_rfl) (fun _ _ _ h => h) hS (Or.inl ⟨by rfl, ?hy1⟩) ?rest1
  case hy1 => (intro w' hw; obtain ⟨_, q1, q2⟩ := hw; have u0 := q1.cell; have u1 := q2.cell; go_simp; try with_reducible rfl)
  replace hS := SG.set (i := 0) (by decide) (by decide) hS
  try simp only [pL]
  refine wpG_t1 (i := 1) (v := ?v2) rfl (by kernel_rfl) (fun _ _ _ h => h) hS (Or.inl ⟨by rfl, ?hy2⟩) ?rest2
  case hy2 => (intro w' hw; obtain ⟨_, q1, q2⟩ := hw; have u0 := q1.cell; have u1 := q2.cell; go_simp; try with_reducible rfl)
  replace hS := SG.set (i := 1) (by decide) (by decide) hS
  try simp only [pL]
  refine wpG_t1 (i := 2) (v := ?v3) rfl (by kernel_rfl) (fun _ _ _ h => h) hS (Or.inl ⟨by rfl, ?hy3⟩) ?rest3
  case hy3 => (intro w' hw; obtain ⟨_, q1, q2⟩ := hw; have u0 := q1.cell; have u1 := q2.cell; go_simp; try with_reducible rfl)
  replace hS := SG.set (i := 2) (by decide) (by decide) hS
  try simp only [pL]
  refine wpG_t1 (i := 3) (v := ?v4) rfl (by kernel_rfl) (fun _ _ _ h => h) hS (Or.inl ⟨by rfl, ?hy4⟩) ?rest4
  case hy4 => (intro w' hw; obtain ⟨_, q1, q2⟩ := hw; have u0 := q1.cell; have u1 := q2.cell; go_simp; try with_reducible rfl)
  replace hS := SG.set (i := 3) (by decide) (by decide) hS
  try simp only [pL]
  refine wpG_t1 (i := 4) (v := ?v5) rfl (by kernel_rfl) (fun _ _ _ h => h) hS (Or.inl ⟨by rfl, ?hy5⟩) ?rest5
  case hy5 => (intro w' hw; obtain ⟨_, q1, q2⟩ := hw; have u0 := q1.cell; have u1 := q2.cell; go_simp; try with_reducible rfl)
  replace hS := SG.set (i := 4) (by decide) (by decide) hS
  try simp only [pL]
  refine wpG_t1 (i := 5) (v := ?v6) rfl (by kernel_rfl) (fun _ _ _ h => h) hS (Or.inl ⟨by rfl, ?hy6⟩) ?rest6
  case hy6 => (intro w' hw; obtain ⟨_, q1, q2⟩ := hw; have u0 := q1.cell; have u1 := q2.cell; go_simp; try with_reducible rfl)
  replace hS := SG.set (i := 5) (by decide) (by decide) hS
  try simp only [pL]
  refine wpG_t1 (i := 6) (v := ?v7) rfl (by kernel_rfl) (fun _ _ _ h => h) hS (Or.inl ⟨by rfl, ?hy7⟩) ?rest7
  case hy7 => (intro w' hw; obtain ⟨_, q1, q2⟩ := hw; have u0 := q1.cell; have u1 := q2.cell; go_simp; try with_reducible rfl)
  replace hS := SG.set (i := 6) (by decide) (by decide) hS
  try simp only [pL]
  refine wpG_t1 (i := 7) (v := ?v8) rfl (by kernel_rfl) (fun _ _ _ h => h) hS (Or.inl ⟨by rfl, ?hy8⟩) ?rest8
  case hy8 => (intro w' hw; obtain ⟨_, q1, q2⟩ := hw; have u0 := q1.cell; have u1 := q2.cell; go_simp; try with_reducible rfl)
  replace hS := SG.set (i := 7) (by decide) (by decide) hS
  try simp only [pL]
  refine wpG_t1 (i := 8) (v := ?v9) rfl (by kernel_rfl) (fun _ _ _ h => h) hS (Or.inl ⟨by rfl, ?hy9⟩) ?rest9
  case hy9 => (intro w' hw; obtain ⟨_, q1, q2⟩ := hw; have u0 := q1.cell; have u1 := q2.cell; go_simp; try with_reducible rfl)
  replace hS := SG.set (i := 8) (by decide) (by decide) hS
  try simp only [pL]
  refine wpG_t1 (i := 9) (v := ?v10) rfl (by kernel_rfl) (fun _ _ _ h => h) hS (Or.inl ⟨by rfl, ?hy10⟩) ?rest10
  case hy10 => (intro w' hw; obtain ⟨_, q1, q2⟩ := hw; have u0 := q1.cell; have u1 := q2.cell; go_simp; try with_reducible rfl)
  replace hS := SG.set (i := 9) (by decide) (by decide) hS
  try simp only [pL]
  clear hS
  have H2 := Lib.hid (H1.out.alloc (.cells #[.int .i64 n.at_, .int .i64 er] 50))
  have G2 := Lib.hid (G1.out.trans (Gx.alloc _ WD (.cells #[.int .i64 n.at_, .int .i64 er] 50)))
  have RN := Lib.hid (RowB.new WD 50 #[.int .i64 n.at_, .int .i64 er])
  have HR2 := Lib.hid (HR.out.alloc (.cells #[.int .i64 n.at_, .int .i64 er] 50))
  refine wpG_ready (rs := [10]) (by kernel_rfl) (by simp) ?_
  refine RG.cons rfl rfl (fun K' hK => ?_) RG.nil
  go_simp
  refine hK.out _ _ ⟨trivial, fun _ => ⟨H2.out.row, HR2.out⟩, fun _ => trivial⟩ (fun hS => ?_)
  clear hK K'
  try simp only [pL]
  clear hS
  obtain ⟨W2, hW2⟩ : ∃ W2, W2 = WD.alloc (.cells #[.int .i64 n.at_, .int .i64 er] 50) := ⟨_, rfl⟩
  rw [← hW2] at H2 G2 RN HR2 ⊢
  obtain ⟨v', W3, hr, ho, hg, hl⟩ := app_at (w := W2) (t := 32) (e := 50) (size := 2) (bytes := 16) (z := .agg #[.int .i64 0, .int .i64 0]) Try.underlying32 (by kernel_rfl) rfl (by decide) (by decide) B v3 _ _ H2.out.o3 _ _ RN.out rfl (by intro u hu; simp at hu; rcases hu with rfl | rfl <;> rfl) (by have := H2.out.sum; omega) (by have := (H2.out.lt _ H2.out.kb); simp only at this; omega) 32
  have r3 : RowB W3 b 72 (wcc v1 v2 v3 v4 mb hv s.lam s.item) := (hg.block _ H2.out.row.lt (fun e => own_ne_row H2.out.o3 H2.out.row (by decide) e.symm)).trans H2.out.row
  have b3 : RowB W3 bx 25 #[.int .i64 n.kind, .int .i64 n.fro, .int .i64 n.til, .string n.word, .int .i64 n.at_, .slice A k c] := (hg.block _ HR2.out.lt (fun e => own_ne_row H2.out.o3 HR2.out (by decide) e.symm)).trans HR2.out
  have FIN := Lib.hid (H2.out.app3 (x := (n.at_, er)) ho hg hl)
  obtain ⟨A', c', rfl, _⟩ := own_shape ho
  have R3 := Lib.hid r3
  have B3 := Lib.hid b3
  clear ho hg hl r3 b3 hW2 H2 HR2 RN
  refine wpG_ready (rs := [11]) (by kernel_rfl) (by simp) ?_
  refine RG.cons rfl rfl (fun K' hK => ?_) RG.nil
  refine wp_append_run (.tmp 11) (.tmp 16) 32 (by rfl) (by rfl) (by rfl) hr ?_
  refine hK.out _ _ ⟨trivial, fun _ => ⟨R3.out, B3.out⟩, fun _ => trivial⟩ (fun hS => ?_)
  clear hK K'
  try simp only [pL]
  clear hr
  refine wpG_t0 (i := 12) (v := ?v11) rfl (by kernel_rfl) (fun _ _ _ h => h) hS (Or.inl ⟨by rfl, ?hy11⟩) ?rest11
  case hy11 => (intro w' hw; go_simp; try with_reducible rfl)
  replace hS := SG.set (i := 12) (by decide) (by decide) hS
  try simp only [pL]
  refine wpG_t0 (i := 13) (v := ?v12) rfl (by kernel_rfl) (fun _ _ _ h => h) hS (Or.inl ⟨by rfl, ?hy12⟩) ?rest12
  case hy12 => (intro w' hw; go_simp; try with_reducible rfl)
  replace hS := SG.set (i := 13) (by decide) (by decide) hS
  try simp only [pL]
  refine wpG_t0 (i := 14) (v := ?v13) rfl (by kernel_rfl) (fun _ _ _ h => h) hS (Or.inl ⟨by rfl, ?hy13⟩) ?rest13
  case hy13 => (intro w' hw; go_simp; try with_reducible rfl)
  replace hS := SG.set (i := 14) (by decide) (by decide) hS
  try simp only [pL]
  clear hS
  have yc := R3.out.cell
  have yt := R3.out.thaw
  refine wpG_ready (rs := [15]) (by kernel_rfl) (by simp) ?_
  refine RG.cons rfl rfl (fun K' hK => ?_) RG.nil
  go_simp
  refine hK.out _ _ ⟨trivial, fun h => absurd (h : true = false) (by decide), fun _ => trivial⟩ (fun hS => ?_)
  clear hK K'
  try simp only [pL]
  clear hS yc yt R3
  refine wpG_done (by kernel_rfl) ?_ _
  go_end0
  exact ⟨rfl, _, ⟨_, _, _, _, _, _, FIN.out.1⟩, G2.out.trans FIN.out.2⟩
end Sc
end Go.Proofs.Ytnefnnoleeeedaa
namespace Go.Proofs.Ytnefnnoleeeedaa
open Go.RowKit Go.Op
namespace Sc
open Vm
theorem wfI {v : Int} (h1 : -9223372036854775808 ≤ v) (h2 : v ≤ 9223372036854775807) : (Lit.int .i64 v).wf = true := by
  exact WalkArith.wf_i64 ⟨h1, h2⟩
theorem MM.put {w1 : World} {b n : Nat} {f : ByteArray → Int} {g : ByteArray → Option Int} (hg : ∀ x, (g x).getD (-1) = f x) {x : ByteArray} {v : Int} (h : MF w1 b (n + 1) (up g x (some v))) : MM w1 b (n + 1) (up f x v) := by
  refine ⟨_, h, fun y => ?_⟩
  unfold up
  split
  · rfl
  · exact hg y
theorem bind_eq (a : Int) (word : ByteArray) (kind : Int) (s s0 s1 s2 s3 : St) (h0 : s0 = bind0 a word s) (h1 : s1 = { s0 with means := up s0.means word s0.bs.length }) (h2 : s2 = { s1 with within := s1.within ++ [s1.lam] }) (h3 : s3 = { s2 with bs := s2.bs ++ [⟨a, kind, word, s2.item⟩] }) : s3 = bind a word kind s := by
  subst h3 h2 h1 h0
  unfold bind bind0
  split <;> rfl
end Sc
end Go.Proofs.Ytnefnnoleeeedaa
