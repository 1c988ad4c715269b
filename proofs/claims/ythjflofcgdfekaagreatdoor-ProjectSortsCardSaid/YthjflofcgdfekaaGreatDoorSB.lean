import Derived.StringKeys
import Derived.Maps.RangeWalk
import Derived.Deep.CutRange
import Derived.Deep.OwnRows
import Derived.Deep.LoopGhost
import Derived.Laws.MakeOwn
import Derived.Laws.OwnMore
import Derived.Laws.AppendOwn
import Derived.Test.YthjflofcgdfekaaGreatDoorSA
namespace Go.Proofs.YthjflofcgdfekaaGreatDoor
open Go.RowKit Go.Op
namespace Sc
abbrev hcc (h : Hi) (A : Option Addr) (n cap : Nat) : Array Value := #[.int .i64 h.kind, .int .i64 h.fro, .int .i64 h.til, .string h.word, .int .i64 h.at_, .slice A n cap]
abbrev hvv (h : Hi) (A : Option Addr) (n cap : Nat) : Value := .agg #[.int .i64 h.kind, .int .i64 h.fro, .int .i64 h.til, .string h.word, .int .i64 h.at_, .slice A n cap]
def TC (w : World) (B : Nat) : Tr → List Value → Prop
  | .nil, cs => cs = []
  | .cons h k r, cs => ∃ A cap cs', cs = [.int .i64 h.kind, .int .i64 h.fro, .int .i64 h.til, .string h.word, .int .i64 h.at_, .slice A k.len cap] ++ cs' ∧ h.word.size ≤ maxLen ∧ k.len ≤ cap ∧
      (0 < k.len → ∃ (g o : Nat) (ck : List Value), A = some ⟨g, o, none⟩ ∧ g < B ∧ (∀ j u, ck[j]? = some u → w.cell? ⟨g, o + j, none⟩ = some u) ∧ TC w B k ck) ∧ TC w B r cs'
def TV (w : World) (B : Nat) (k : Tr) (A : Option Addr) (cap : Nat) : Prop :=
  k.len ≤ cap ∧ (0 < k.len → ∃ (g o : Nat) (ck : List Value), A = some ⟨g, o, none⟩ ∧ g < B ∧ (∀ j u, ck[j]? = some u → w.cell? ⟨g, o + j, none⟩ = some u) ∧ TC w B k ck)
def Old (B : Nat) (w w' : World) : Prop := ∀ g, g < B → w'.heap[g]? = w.heap[g]?
theorem Old.refl (B : Nat) (w : World) : Old B w w := fun _ _ => rfl
theorem Old.trans {B : Nat} {a b c : World} (h : Old B a b) (k : Old B b c) : Old B a c := fun g hg => (k g hg).trans (h g hg)
theorem Old.of {B : Nat} {w w' : World} (h : Below B w w') : Old B w w' := fun g hg => h.block g hg
theorem TC.keep {B : Nat} {w w' : World} (hb : Old B w w') : ∀ (f : Tr) (cs : List Value), TC w B f cs → TC w' B f cs
  | .nil, cs, h => by rw [TC] at h ⊢; exact h
  | .cons hd k r, cs, h => by
    rw [TC] at h ⊢
    obtain ⟨A, cap, cs', e, hw, hc, hk, hr⟩ := h
    refine ⟨A, cap, cs', e, hw, hc, fun h0 => ?_, TC.keep hb r cs' hr⟩
    obtain ⟨g, o, ck, e1, h1, h3, h4⟩ := hk h0
    exact ⟨g, o, ck, e1, h1, fun j u hu => (World.cell?_of_block (w := w) (hb g h1)).trans (h3 j u hu), TC.keep hb k ck h4⟩
theorem TV.keep {B : Nat} {w w' : World} (hb : Old B w w') {k : Tr} {A : Option Addr} {cap : Nat} (h : TV w B k A cap) : TV w' B k A cap := by
  refine ⟨h.1, fun h0 => ?_⟩
  obtain ⟨g, o, ck, e1, h1, h3, h4⟩ := h.2 h0
  exact ⟨g, o, ck, e1, h1, fun j u hu => (World.cell?_of_block (w := w) (hb g h1)).trans (h3 j u hu), TC.keep hb k ck h4⟩
theorem TC.nth {B : Nat} {w : World} : ∀ (k : Tr) (cs : List Value) (i : Nat) (h : Hi) (kk r : Tr), TC w B k cs → k.drop i = .cons h kk r → h.word.size ≤ maxLen ∧ ∃ A2 c2, TV w B kk A2 c2 ∧ ∀ j u, [Value.int .i64 h.kind, .int .i64 h.fro, .int .i64 h.til, .string h.word, .int .i64 h.at_, .slice A2 kk.len c2][j]? = some u → cs[i * 6 + j]? = some u
  | .nil, cs, i, h, kk, r, _, e => by rw [Tr.drop_nil] at e; cases e
  | .cons h' k' r', cs, 0, h, kk, r, hf, e => by
    rw [Tr.drop] at e
    injection e with e1 e2 e3
    subst e1 e2 e3
    rw [TC] at hf
    obtain ⟨A, cap, cs', e, hw, hc, hk, _⟩ := hf
    refine ⟨hw, A, cap, ⟨hc, hk⟩, fun j u hu => ?_⟩
    rw [e, Nat.zero_mul, Nat.zero_add, List.getElem?_append_left (List.getElem?_eq_some_iff.1 hu).1]
    exact hu
  | .cons h' k' r', cs, i + 1, h, kk, r, hf, e => by
    rw [Tr.drop] at e
    rw [TC] at hf
    obtain ⟨A, cap, cs', e', hw, hc, _, hr⟩ := hf
    obtain ⟨hw2, A2, c2, h1, h2⟩ := TC.nth r' cs' i h kk r hr e
    refine ⟨hw2, A2, c2, h1, fun j u hu => ?_⟩
    rw [e', show (i + 1) * 6 + j = 6 + (i * 6 + j) by omega, List.getElem?_append_right (by simp)]
    simpa using h2 j u hu
theorem TV.nth {B : Nat} {w : World} {k : Tr} {A : Option Addr} {cap i : Nat} {h : Hi} {kk r : Tr} (hk : TV w B k A cap) (e : k.drop i = .cons h kk r) :
    h.word.size ≤ maxLen ∧ ∃ g o A2 c2, A = some ⟨g, o, none⟩ ∧ g < B ∧ TV w B kk A2 c2 ∧ w.cell? ⟨g, o + i * 6, none⟩ = some (.int .i64 h.kind) ∧ w.cell? ⟨g, o + i * 6 + 1, none⟩ = some (.int .i64 h.fro) ∧ w.cell? ⟨g, o + i * 6 + 2, none⟩ = some (.int .i64 h.til) ∧
      w.cell? ⟨g, o + i * 6 + 3, none⟩ = some (.string h.word) ∧ w.cell? ⟨g, o + i * 6 + 4, none⟩ = some (.int .i64 h.at_) ∧ w.cell? ⟨g, o + i * 6 + 5, none⟩ = some (.slice A2 kk.len c2) := by
  have hl : 0 < k.len := by
    rcases Nat.eq_zero_or_pos k.len with h0 | h0
    · rw [Tr.drop_len k i (by omega)] at e; cases e
    · exact h0
  obtain ⟨g, o, ck, hA, hg, hc, hf⟩ := hk.2 hl
  obtain ⟨hw, A2, c2, h1, h2⟩ := TC.nth k ck i h kk r hf e
  have key := fun j u hu => hc _ _ (h2 j u hu)
  exact ⟨hw, g, o, A2, c2, hA, hg, h1, key 0 _ rfl, key 1 _ rfl, key 2 _ rfl, key 3 _ rfl, key 4 _ rfl, key 5 _ rfl⟩
open Go.Maps
theorem lawS : Keyed Tryz.prog 9 := string_keyed Tryz.underlying9
theorem zeroI (w : World) : (zeroValue 3).run Tryz.prog w = .ok (.int .i64 0) w := by kernel_rfl
abbrev kl (s : ByteArray) : Lit := .string s.data.toList
theorem kl_inj {s t : ByteArray} (h : kl s = kl t) : s = t := by
  injection h with h
  exact ByteArray.ext (Array.toList_inj.1 h)
theorem kl_key {s : ByteArray} (h : s.size ≤ maxLen) : keyOf Tryz.prog 9 (.string s) = some (kl s) := WideMaps.keyOf_string_mk Tryz.underlying9 h
theorem kl_is {s : ByteArray} (h : s.size ≤ maxLen) : WideAt.IsKeyLit (kl s) := lawS.key (kl_key h)
def Says (D : DataW Unit) (f : ByteArray → Option Int) : Prop :=
  IsMap D ∧ ∀ s, s.size ≤ maxLen → has D (kl s) = (f s).isSome ∧ D.atKey (kl s) (.lit (.int .i64 0)) = .lit (.int .i64 ((f s).getD 0))
theorem Says.empty : Says (.map []) fun _ => none := ⟨isMap_empty, fun _ _ => ⟨rfl, rfl⟩⟩
theorem Says.put {D : DataW Unit} {f : ByteArray → Option Int} (h : Says D f) {x : ByteArray} (hx : x.size ≤ maxLen) (v : Int) : Says (D.put (kl x) (.lit (.int .i64 v))) (up f x (some v)) := by
  refine ⟨h.1.put _ _, fun s hs => ?_⟩
  unfold up
  by_cases e : s = x
  · subst e
    rw [if_pos rfl]
    exact ⟨has_put_same h.1 (kl_is hs) _, atKey_put_same h.1 (kl_is hs) _ _⟩
  · rw [if_neg e, has_put_other (fun e' => e (kl_inj e')), atKey_put_other (fun e' => e (kl_inj e'))]
    exact h.2 s hs
def MF (w : World) (b n : Nat) (f : ByteArray → Option Int) : Prop := ∃ D : DataW Unit, w.ownsMap Tryz.prog 9 (plainElem Tryz.prog 3) b n D ∧ Says D f
theorem MF.lt {w : World} {b n : Nat} {f : ByteArray → Option Int} (h : MF w b n f) : b < w.heap.size := by obtain ⟨D, h, _⟩ := h; exact h.lt
theorem MF.new (w : World) : MF (w.alloc (.map #[] 0)) w.heap.size 0 fun _ => none := ⟨_, World.ownsMap_made w _ _ _, .empty⟩
theorem MF.mono {w : World} {b n m : Nat} {f : ByteArray → Option Int} (h : MF w b n f) (hn : n ≤ m) : MF w b m f := by obtain ⟨D, h, k⟩ := h; exact ⟨D, h.mono hn, k⟩
theorem MF.of_block {w w' : World} {b n : Nat} {f : ByteArray → Option Int} (h : MF w b n f) (hb : w'.heap[b]? = w.heap[b]?) : MF w' b n f := by
  obtain ⟨D, ⟨es, clock, h1, h2⟩, k⟩ := h
  exact ⟨D, ⟨es, clock, hb.trans h1, h2⟩, k⟩
theorem MF.block {w : World} {b n : Nat} {f : ByteArray → Option Int} (h : MF w b n f) : ∃ es clock, w.heap[b]? = some (.map es clock) := by
  obtain ⟨D, ⟨es, clock, h1, _⟩, _⟩ := h
  exact ⟨es, clock, h1⟩
theorem MF.look {w : World} {b n : Nat} {f : ByteArray → Option Int} (h : MF w b n f) {t : TypeId} (ht : Tryz.prog.underlying t = some (.map 9 3)) {x : ByteArray} (hx : x.size ≤ maxLen) :
    (Instr.lookup t (.map (some b)) (.string x) true).run Tryz.prog w = .ok (.tuple #[.int .i64 ((f x).getD 0), .bool (f x).isSome]) w := by
  obtain ⟨D, h, k⟩ := h
  obtain ⟨v, ps, hr, hv⟩ := h.look_ok lawS ht (zeroI w) (plainElem_int Tryz.underlying3 (by decide)) (kl_key hx)
  obtain ⟨k1, k2⟩ := k.2 x hx
  obtain ⟨c, rfl, hc, _⟩ := plainElem_int_inv Tryz.underlying3 hv
  simp only [Prod.mk.injEq] at hc
  rw [k2] at hc
  have := hc.1
  simp only [DataW.lit.injEq, Lit.int.injEq, true_and] at this
  rw [hr, k1, this]
theorem MF.put {w : World} {b n : Nat} {f : ByteArray → Option Int} (h : MF w b n f) {t : TypeId} (ht : Tryz.prog.underlying t = some (.map 9 3)) (hn : n < maxLen) {x : ByteArray} (hx : x.size ≤ maxLen) {v : Int} (hv : (Lit.int .i64 v).wf = true) :
    ∃ w', (Instr.mapUpdate t (.map (some b)) (.string x) (.int .i64 v)).run Tryz.prog w = .ok () w' ∧ MF w' b (n + 1) (up f x (some v)) ∧ w.grownBy w' (some b) := by
  obtain ⟨D, h, k⟩ := h
  obtain ⟨w', h1, h2, h3⟩ := h.update lawS ht hn (kl_key hx) (plainElem_int Tryz.underlying3 hv)
  exact ⟨w', h1, ⟨_, h2, k.put hx v⟩, h3⟩
theorem wp_mapUpdate_run {o : Oper} {a : Act} {w : World} {K : Act → World → Prop} {Q : Exit → Act → World → Prop} (m x v : Operand) (t : TypeId)
    (ho : o.op = .mapUpdate t m x v) {mv xv vv : Value} {w' : World} (hm : a.eval m = mv) (hx : a.eval x = xv) (hv : a.eval v = vv)
    (hr : (Instr.mapUpdate t mv xv vv).run Tryz.prog w = .ok () w') (h : K (a.put o.dst undef) w') : Oper.wp Tryz.prog o a w K Q := by
  unfold Oper.wp execOp
  simp [ho, hm, hx, hv, hr, Result.andThen]
  exact h
theorem wp_append_run {o : Oper} {a : Act} {w : World} {K : Act → World → Prop} {Q : Exit → Act → World → Prop} (s x : Operand) (t : TypeId)
    (ho : o.op = .call { callee := .builtin .append, args := #[s, x], argTypes := #[t, t] }) {v u v' : Value} {w' : World} (hs : a.eval s = v) (hx : a.eval x = u)
    (hr : (Builtin.append_ #[t, t] o.type #[v, u]).run Tryz.prog w = .ok v' w') (h : K (a.put o.dst v') w') : Oper.wp Tryz.prog o a w K Q := by
  unfold Oper.wp execOp
  simp only [ho, resolve, invoke, builtin, Sem.run_bind, Sem.run_pure, Result.andThen_ok, List.map_toArray, List.map_cons, List.map_nil, hs, hx, hr]
  exact h
theorem own_apart {w : World} {b1 b2 e1 e2 s1 s2 n m : Nat} {u v : Value} {xs ys : List Value} (h1 : w.ownsRow b1 e1 s1 u n xs) (h2 : w.ownsRow b2 e2 s2 v m ys) (he : e1 ≠ e2) : u.ownBlock = none ∨ u.ownBlock ≠ v.ownBlock := by
  rcases h1.2 with ⟨rfl, _⟩ | ⟨g, cap, cur, rfl, _, hg, _⟩
  · exact .inl rfl
  · refine .inr fun e => ?_
    rcases h2.2 with ⟨rfl, _⟩ | ⟨g', cap', cur', rfl, _, hg', _⟩
    · simp [Value.ownBlock] at e
    · simp only [Value.ownBlock, Option.some.injEq] at e
      subst e
      rw [hg] at hg'
      simp at hg'
      exact he hg'.2
theorem own_block {w w' : World} {b e s n : Nat} {v : Value} {xs : List Value} (h : w.ownsRow b e s v n xs) (hg : ∀ g, v.ownBlock = some g → w'.heap[g]? = w.heap[g]?) : w'.ownsRow b e s v n xs := by
  refine ⟨h.1, ?_⟩
  rcases h.2 with ⟨hv, hn⟩ | ⟨g, cap, cur, rfl, h1, h2, h3⟩
  · exact .inl ⟨hv, hn⟩
  · exact .inr ⟨g, cap, cur, rfl, h1, (hg g rfl).trans h2, h3⟩
theorem own_shape {w : World} {base e s n : Nat} {v : Value} {xs : List Value} (h : w.ownsRow base e s v n xs) : ∃ A cap, v = .slice A n cap ∧ n ≤ cap := by
  rcases h.2 with ⟨hv, rfl⟩ | ⟨g, cap, cur, hv, _, _, h1, _⟩
  · exact ⟨none, 0, hv, Nat.le_refl _⟩
  · exact ⟨_, cap, hv, h1⟩
theorem own_cells {w : World} {base e s n : Nat} {v : Value} {xs : List Value} (h : w.ownsRow base e s v n xs) {g : Nat} (hg : v.ownBlock = some g) : ∃ cs, w.heap[g]? = some (.cells cs e (0, 0)) := by
  rcases h.2 with ⟨rfl, _⟩ | ⟨g', cap, cur, rfl, _, h2, _⟩
  · simp [Value.ownBlock] at hg
  · simp only [Value.ownBlock, Option.some.injEq] at hg
    subst hg
    exact ⟨_, h2⟩
end Sc
end Go.Proofs.YthjflofcgdfekaaGreatDoor
