import Derived.Test.YthjflofcgdfekaaGreatDoorMAW
import Derived.BigQuiet
import Derived.Laws.AppendOwn
import Derived.Maps.OwnSet
import Derived.Deep.AppendLies
namespace Go.Proofs.YthjflofcgdfekaaGreatDoor
open Go.RowKit
namespace Ps
def lits : List (List UInt8) := [kInt, kStr, kDyn, kFn, kUse, kDef, kIf, kElse, kWhile, kLet, kPrint, kReturn, kInput, sOpen, sShut, sParO, sParS, sCol, sCom, sSem, sDot, sEq, sEqEq, sLess, sPlus, sMinus, sStar]
structure Wf2 (l : List Tok) : Prop extends Wf l where
  conv : ∀ i (h : i < l.length), i + 1 < l.length → l[i].kind ≠ 0
  keys : ∀ i (h : i < l.length), l[i].kind ≠ 2 → l[i].kind ≠ 5 → i + 1 < l.length → ∀ x ∈ lits, l[i].text.data.toList ≠ x
theorem isM_text {l : List Tok} (W : Wf2 l) {i : Nat} (h : i < l.length) {x : List UInt8} (hx : x ∈ lits) : isM l i x = (decide (i + 1 < l.length) && (l[i].text.data.toList == x)) := by
  unfold isM
  rw [List.getElem?_eq_getElem h]
  dsimp only
  by_cases h1 : i + 1 < l.length
  · rw [decide_eq_true h1, Bool.true_and]
    by_cases h2 : l[i].kind = 2
    · simp [h2]
    · by_cases h5 : l[i].kind = 5
      · simp [h5]
      · have := W.keys i h h2 h5 h1 x hx
        simp [h2, h5, this]
  · have h0 : l[i].kind = 0 := by
      by_cases hk : l[i].kind = 0
      · exact hk
      · exact absurd (W.next i h hk) h1
    simp [h0, h1]
theorem bel_put {B : Nat} {w w' : World} (h : Below B w w') (i : Nat) (u : Value) : Below B w (w'.setCell ⟨B, i, none⟩ u) := h.setCell (p := ⟨B, i, none⟩) (Nat.le_refl _) u
abbrev Sd := Nat × Int
def lastI (X : Cx) : Nat := X.l.length - 1
def pos (X : Cx) (s : Sd) : Nat := if 0 ≤ s.2 then lastI X else s.1
def wrong (s : Sd) : Int := if 0 ≤ s.2 then s.2 else 0
def failS (s : Sd) : Sd := if 0 ≤ s.2 then s else (s.1, (s.1 : Int))
def tk (X : Cx) (s : Sd) (x : List UInt8) : Bool := decide (s.2 < 0) && isM X.l s.1 x
def hasK (X : Cx) (s : Sd) (k : Nat) : Bool := decide (s.2 < 0) && decide (kindAt X.l s.1 = k)
structure PSt (X : Cx) (w : World) (s : Sd) : Prop where
  row : RowB w X.rb 220 #[.slice X.A X.l.length X.c, .int .i64 (pos X s), .bool (decide (0 ≤ s.2)), .int .i64 (wrong s)]
  toks : ∃ g, X.A = some ⟨g, 0, none⟩ ∧ g < X.rb ∧ ∀ i (h : i < X.l.length),
    w.cell? ⟨g, i * 4, none⟩ = some (.int .i64 X.l[i].kind) ∧ w.cell? ⟨g, i * 4 + 1, none⟩ = some (.int .i64 X.l[i].at_) ∧ w.cell? ⟨g, i * 4 + 2, none⟩ = some (.string X.l[i].lead) ∧ w.cell? ⟨g, i * 4 + 3, none⟩ = some (.string X.l[i].text)
  wf : Wf2 X.l
  cap : X.l.length ≤ X.c
  ib : s.2 < 0 → s.1 < X.l.length
  bb : s.2 < X.l.length
variable {X : Cx} {w w' : World} {s s' : Sd}
theorem PSt.toks_below (h : PSt X w s) (hb : Below (X.rb) w w') : ∃ g, X.A = some ⟨g, 0, none⟩ ∧ g < X.rb ∧ ∀ i (h : i < X.l.length),
    w'.cell? ⟨g, i * 4, none⟩ = some (.int .i64 X.l[i].kind) ∧ w'.cell? ⟨g, i * 4 + 1, none⟩ = some (.int .i64 X.l[i].at_) ∧ w'.cell? ⟨g, i * 4 + 2, none⟩ = some (.string X.l[i].lead) ∧ w'.cell? ⟨g, i * 4 + 3, none⟩ = some (.string X.l[i].text) := by
  obtain ⟨g, e, hg, hc⟩ := h.toks
  refine ⟨g, e, hg, fun i hi => ?_⟩
  obtain ⟨c0, c1, c2, c3⟩ := hc i hi
  exact ⟨(hb.cell (p := ⟨g, i * 4, none⟩) hg).trans c0, (hb.cell (p := ⟨g, i * 4 + 1, none⟩) hg).trans c1, (hb.cell (p := ⟨g, i * 4 + 2, none⟩) hg).trans c2, (hb.cell (p := ⟨g, i * 4 + 3, none⟩) hg).trans c3⟩
theorem PSt.lt (h : PSt X w s) : X.rb < w.heap.size := h.row.lt
theorem PSt.below (h : PSt X w s) (hb : Below w.heap.size w w') : PSt X w' s :=
  ⟨h.row.below hb h.row.lt, h.toks_below (hb.mono (by have := h.row.lt; omega)), h.wf, h.cap, h.ib, h.bb⟩
theorem PSt.alloc (h : PSt X w s) (o : Obj) : PSt X (w.alloc o) s := h.below ((Below.refl _ _).alloc (Nat.le_refl _) o)
theorem PSt.far (h : PSt X w s) {p : Addr} (hp : X.rb < p.block) (u : Value) : PSt X (w.setCell p u) s :=
  ⟨h.row.far (by omega) u, h.toks_below ((Below.refl _ _).setCell (by omega) u), h.wf, h.cap, h.ib, h.bb⟩
theorem PSt.grown {row : Option Nat} (h : PSt X w s) (hg : w.grownBy w' row) (hr : ∀ k, row = some k → X.rb < k) : PSt X w' s := by
  have hl := h.row.lt
  have hb : Below (X.rb + 1) w w' := (Below.refl _ _).grown hg (by omega) (fun k hk => hr k hk)
  exact ⟨h.row.below hb (by omega), h.toks_below (hb.mono (by omega)), h.wf, h.cap, h.ib, h.bb⟩
theorem PSt.len (h : PSt X w s) : 0 < X.l.length ∧ X.l.length ≤ 4000 := ⟨h.wf.pos, h.wf.le⟩
theorem PSt.last (h : PSt X w s) : lastI X + 1 = X.l.length := by have := h.len; unfold lastI; omega
theorem PSt.pos_lt (h : PSt X w s) : pos X s < X.l.length := by
  unfold pos
  split
  · have := h.last; omega
  · exact h.ib (by omega)
theorem PSt.wrong_le (h : PSt X w s) : 0 ≤ wrong s ∧ wrong s < 4000 := by
  have := h.bb
  have := h.len
  unfold wrong
  split <;> omega
theorem PSt.go (h : PSt X w s) (hs : s.2 < 0) (hi : s.1 + 1 < X.l.length) : PSt X (w.setCell ⟨X.rb, 1, none⟩ (.int .i64 ((s.1 + 1 : Nat) : Int))) (s.1 + 1, s.2) := by
  have hr := h.row.put 1 (.int .i64 ((s.1 + 1 : Nat) : Int))
  refine ⟨?_, h.toks_below (bel_put (Below.refl _ _) _ _), h.wf, h.cap, fun _ => hi, h.bb⟩
  have e : pos X (s.1 + 1, s.2) = s.1 + 1 := by unfold pos; rw [if_neg (by dsimp only; omega)]
  rw [e]
  exact hr
theorem PSt.stop (h : PSt X w s) (hs : s.2 < 0) : PSt X (((w.setCell ⟨X.rb, 2, none⟩ (.bool true)).setCell ⟨X.rb, 3, none⟩ (.int .i64 (s.1 : Int))).setCell ⟨X.rb, 1, none⟩ (.int .i64 (lastI X : Int))) (failS s) := by
  have hr := ((h.row.put 2 (.bool true)).put 3 (.int .i64 (s.1 : Int))).put 1 (.int .i64 (lastI X : Int))
  have hf : failS s = (s.1, (s.1 : Int)) := by unfold failS; rw [if_neg (by omega)]
  have hi := h.ib hs
  refine ⟨?_, h.toks_below (bel_put (bel_put (bel_put (Below.refl _ _) _ _) _ _) _ _), h.wf, h.cap, fun hh => ?_, ?_⟩
  · rw [hf]
    have e : pos X (s.1, (s.1 : Int)) = lastI X := by unfold pos; rw [if_pos (by dsimp only; omega)]
    have e2 : wrong (s.1, (s.1 : Int)) = (s.1 : Int) := by unfold wrong; rw [if_pos (by dsimp only; omega)]
    have e3 : decide (0 ≤ ((s.1, (s.1 : Int)) : Sd).2) = true := decide_eq_true (by dsimp only; omega)
    rw [e, e2, e3]
    exact hr
  · rw [hf] at hh; dsimp only at hh; omega
  · rw [hf]; dsimp only; omega
theorem PSt.mk_fail (h : PSt X w s) (hs : s.2 < 0) (hb : Below X.rb w w') (hr : RowB w' X.rb 220 #[.slice X.A X.l.length X.c, .int .i64 (lastI X : Int), .bool true, .int .i64 (s.1 : Int)]) : PSt X w' (failS s) := by
  have hf : failS s = (s.1, (s.1 : Int)) := by unfold failS; rw [if_neg (by omega)]
  have hi := h.ib hs
  refine ⟨?_, h.toks_below hb, h.wf, h.cap, fun hh => ?_, ?_⟩
  · rw [hf]
    have e : pos X (s.1, (s.1 : Int)) = lastI X := by unfold pos; rw [if_pos (by dsimp only; omega)]
    have e2 : wrong (s.1, (s.1 : Int)) = (s.1 : Int) := by unfold wrong; rw [if_pos (by dsimp only; omega)]
    have e3 : decide (0 ≤ ((s.1, (s.1 : Int)) : Sd).2) = true := decide_eq_true (by dsimp only; omega)
    rw [e, e2, e3]
    exact hr
  · rw [hf] at hh; dsimp only at hh; omega
  · rw [hf]; dsimp only; omega
theorem PSt.stay (h : PSt X w s) (hs : 0 ≤ s.2) : PSt X (w.setCell ⟨X.rb, 1, none⟩ (.int .i64 (lastI X : Int))) (failS s) := by
  have hr := h.row.put 1 (.int .i64 (lastI X : Int))
  have hf : failS s = s := by unfold failS; rw [if_pos hs]
  rw [hf]
  refine ⟨?_, h.toks_below (bel_put (Below.refl _ _) _ _), h.wf, h.cap, h.ib, h.bb⟩
  have e : pos X s = lastI X := by unfold pos; rw [if_pos hs]
  rw [e]
  exact hr
theorem tk_good {x : List UInt8} (h : tk X s x = true) : s.2 < 0 ∧ isM X.l s.1 x = true := by
  unfold tk at h
  rw [Bool.and_eq_true, decide_eq_true_eq] at h
  exact h
theorem tk_bad {x : List UInt8} (h : tk X s x = false) : 0 ≤ s.2 ∨ isM X.l s.1 x = false := by
  unfold tk at h
  rw [Bool.and_eq_false_iff, decide_eq_false_iff_not] at h
  rcases h with h | h
  · left; omega
  · exact .inr h
end Ps
end Go.Proofs.YthjflofcgdfekaaGreatDoor
namespace Go.Proofs.YthjflofcgdfekaaGreatDoor
open Go.RowKit
theorem append_at {w : World} {P : Program} (base : Nat) (t ty e : TypeId) (i : TypeInfo) (z : Value) (ht : P.underlying t = some (.slice e)) (hi : P.info? e = some i) (hz : i.zero = some z) (hzs : z.cells.size = i.size) (hsz : 0 < i.size)
    (v : Value) (n : Nat) (xs : List Value) (hown : w.ownsRow base e i.size v n xs)
    (a : Addr) (m c : Nat) (news : List Value) (hl : news.length = m * i.size) (hnews : ∀ j u, news[j]? = some u → w.cell? (a.add j) = some u) (h1 : ∀ u ∈ news, u.oneCell' = true)
    (h63 : n + m ≤ maxLen) (hbytes : (n + m) * i.bytes ≤ 140737488355328) (v' : Value) (w' : World)
    (hr : (Builtin.append_ #[t, t] ty #[v, .slice (some a) m c]).run P w = .ok v' w') : ∀ k, v'.ownBlock = some k → v.ownBlock = some k ∨ w.heap.size ≤ k := by
  intro k hk
  have hsmall : n + m ≤ 9223372036854775807 := by simp only [maxLen] at h63; omega
  rcases hown.2 with ⟨rfl, rfl⟩ | ⟨g, cap, cur, rfl, hbg, hg, hnc, hcm, hcs, htake⟩
  · have hx : xs = [] := List.eq_nil_of_length_eq_zero (by simpa using hown.1)
    subst hx
    obtain ⟨v2, w2, h2, h3, _, _⟩ := run_append_own (P := P) w w.heap.size t ty e i z i.size i.bytes ht hi hz rfl rfl hzs hsz (.slice none 0 0) 0 [] (World.ownsRow_nil w w.heap.size e i.size) a m c news hl hnews h1 h63 hbytes (Nat.le_refl _)
    rw [hr] at h2
    injection h2 with e1 e2
    subst e1 e2
    exact .inr (h3.lt k hk).1
  · by_cases hroom : n + m ≤ cap
    · have hfit : n * i.size + news.length ≤ cur.size := by rw [hl, hcs, ← Nat.add_mul]; exact Nat.mul_le_mul_right _ hroom
      have h2 := run_append_room (P := P) w t ty e i ht hi g n cap cur hg a m c news hl hnews h1 hroom hfit
      rw [hr] at h2
      injection h2 with e1 e2
      rw [e1] at hk
      left
      exact hk
    · have holds : ∀ j u, xs[j]? = some u → w.cell? ((⟨g, 0, none⟩ : Addr).add j) = some u := hown.cells (g := g) rfl
      have h2 := run_append_grow (P := P) w t ty e i z ht hi hz ⟨g, 0, none⟩ n cap xs hown.1 holds a m c news hl hnews (by omega) (by omega) (growslice_fits (by omega) hbytes)
      rw [hr] at h2
      injection h2 with e1 e2
      rw [e1] at hk
      simp [Value.ownBlock] at hk
      omega
theorem wpList_append_at {w : World} {P : Program} {ops : Array Oper} {rest : List Oper} {o : Oper} {a : Act} {Q : Exit → Act → World → Prop} (hgd : o.guard = none) (s x : Operand) (t : TypeId)
    (ho : o.op = .call { callee := .builtin .append, args := #[s, x], argTypes := #[t, t] })
    (base : Nat) (e : TypeId) (i : TypeInfo) (z : Value) (size bytes : Nat) (ht : P.underlying t = some (.slice e)) (hi : P.info? e = some i) (hz : i.zero = some z)
    (hsize : i.size = size) (hby : i.bytes = bytes) (hzs : z.cells.size = size) (hsz : 0 < size)
    (v : Value) (n : Nat) (xs : List Value) (hs : a.eval s = v) (hown : w.ownsRow base e size v n xs)
    (ad : Addr) (m c : Nat) (news : List Value) (hx : a.eval x = .slice (some ad) m c) (hl : news.length = m * size) (hnews : ∀ j u, news[j]? = some u → w.cell? (ad.add j) = some u) (h1 : ∀ u ∈ news, u.oneCell' = true)
    (h63 : n + m ≤ maxLen) (hbytes : (n + m) * bytes ≤ 140737488355328) (hbase : base ≤ w.heap.size)
    (h : ∀ v' w', w'.ownsRow base e size v' (n + m) (xs ++ news) → w.grownBy w' v.ownBlock → (∀ k, v'.ownBlock = some k → v.ownBlock = some k ∨ w.heap.size ≤ k) → wpList P ops Q rest (a.put o.dst v') w') : wpList P ops Q (o :: rest) a w := by
  refine wpList_plain hgd fun K hK => ?_
  obtain ⟨v', w', hr, h2, h3, h4⟩ := run_append_own (P := P) w base t o.type e i z size bytes ht hi hz hsize hby hzs hsz v n xs hown ad m c news hl hnews h1 h63 hbytes hbase
  subst hsize hby
  have h5 := append_at base t o.type e i z ht hi hz hzs hsz v n xs hown ad m c news hl hnews h1 h63 hbytes v' w' hr
  unfold Oper.wp execOp
  simp only [ho, resolve, invoke, builtin, Sem.run_bind, Sem.run_pure, Result.andThen_ok, List.map_toArray, List.map_cons, List.map_nil, hs, hx, hr]
  exact hK _ _ (h v' w' h2 h3 h5)
namespace Ps
theorem KV.new_ {w : World} {P : Nat → Prop} {k : Fo} {A : Option Addr} {cap lo : Nat} (h : KV w P k A cap) (hP : ∀ g, P g → lo ≤ g) : KV w (fun g => lo ≤ g) k A cap := h.keep (Nat.le_refl _) (fun g hg _ => ⟨rfl, hP g hg⟩)
theorem six {c : Array Value} (hc : c.size = 6) (u0 u1 u2 u3 u4 u5 : Value) : (((((c.setIfInBounds 0 u0).setIfInBounds 1 u1).setIfInBounds 2 u2).setIfInBounds 3 u3).setIfInBounds 4 u4).setIfInBounds 5 u5 = #[u0, u1, u2, u3, u4, u5] := by
  obtain ⟨l⟩ := c
  match l, hc with
  | [_, _, _, _, _, _], _ => rfl
theorem cells_nd (w : World) (a b c d e f : Value) (j : Nat) (u : Value) (hj : [a, b, c, d, e, f][j]? = some u) : (w.alloc (.cells #[a, b, c, d, e, f] 38)).cell? ((⟨w.heap.size, 0, none⟩ : Addr).add j) = some u :=
  World.news_of_block (heap_alloc_new w (.cells #[a, b, c, d, e, f] 38)) j u hj
theorem one_nd (h : Hd) (A : Option Addr) (n c : Nat) : ∀ u ∈ [Value.int .i64 h.kind, .int .i64 h.fro, .int .i64 h.til, .string h.word, .int .i64 h.at_, .slice A n c], u.oneCell' = true := by
  simp [Value.oneCell']
theorem info25 : (Tryz.prog.info? 38).map (fun i => (i.zero, i.size, i.bytes)) = some (some (.agg #[.int .i64 0, .int .i64 0, .int .i64 0, .string ⟨#[]⟩, .int .i64 0, .slice none 0 0]), 6, 72) := by kernel_rfl
end Ps
end Go.Proofs.YthjflofcgdfekaaGreatDoor
namespace Go.Proofs.YthjflofcgdfekaaGreatDoor
open Go.RowKit
namespace Pg
open Ps
abbrev Row := Nat × TypeId × Array Value
abbrev Kid := Fo × Option Addr × Nat
def PB (lo : Nat) (Rs : List Row) (v : Value) (g : Nat) : Prop := lo ≤ g ∧ (∀ p ∈ Rs, p.1 ≠ g) ∧ v.ownBlock ≠ some g
structure LS (X : Cx) (w0 w : World) (b : Sd) (Rs : List Row) (Ks : List Kid) (v : Value) (K : Fo) : Prop where
  st : PSt X w b
  fr : Fr X.rb w0.heap.size w0 w
  rows : ∀ p ∈ Rs, RowB w p.1 p.2.1 p.2.2 ∧ w0.heap.size ≤ p.1
  nd : (Rs.map Prod.fst).Nodup
  kvs : ∀ k ∈ Ks, KV w (PB w0.heap.size Rs v) k.1 k.2.1 k.2.2
  own : ∃ cs, w.ownsRow w0.heap.size 38 6 v K.len cs ∧ FC w (PB w0.heap.size Rs v) K cs
  ownr : ∀ p ∈ Rs, v.ownBlock ≠ some p.1
  rb : X.rb < w0.heap.size
variable {X : Cx} {w0 w w' : World} {b : Sd} {Rs : List Row} {Ks : List Kid} {v : Value} {K : Fo}
theorem LS.start (h : PSt X w b) : LS X w w b [] [] (.slice none 0 0) .nil :=
  ⟨h, Fr.refl _ _ _, (by simp), (by simp), (by simp), ⟨[], World.ownsRow_nil _ _ _ _, by rw [FC]⟩, (by simp), h.row.lt⟩
theorem LS.size (h : LS X w0 w b Rs Ks v K) : w0.heap.size ≤ w.heap.size := h.fr.size
theorem LS.step (h : LS X w0 w b Rs Ks v K) {b' : Sd} (hS : PSt X w' b') (hF : Fr X.rb w.heap.size w w') : LS X w0 w' b' Rs Ks v K := by
  have hrb := h.rb
  have hb : ∀ g, PB w0.heap.size Rs v g → g < w.heap.size → w'.heap[g]? = w.heap[g]? ∧ PB w0.heap.size Rs v g := fun g hg hl => ⟨hF.block g hl (by have := hg.1; omega), hg⟩
  refine ⟨hS, h.fr.trans (hF.mono h.size), fun p hp => ?_, h.nd, fun k hk => (h.kvs k hk).keep hF.size hb, ?_, h.ownr, hrb⟩
  · obtain ⟨r1, r2⟩ := h.rows p hp
    exact ⟨hF.row r1 r1.lt (by omega), r2⟩
  · obtain ⟨cs, o1, o2⟩ := h.own
    exact ⟨cs, hF.own o1 hrb, o2.keep hF.size hb⟩
theorem LS.other (h : LS X w0 w b Rs Ks v K) (hb : Below w.heap.size w w') : LS X w0 w' b Rs Ks v K := h.step (h.st.below hb) (.of hb)
theorem LS.alloc (h : LS X w0 w b Rs Ks v K) (g0 : Nat) (hg0 : g0 = w.heap.size) (t : TypeId) (c : Array Value) : LS X w0 (w.alloc (.cells c t)) b ((g0, t, c) :: Rs) Ks v K := by
  subst hg0
  have h' := h.other (bel1 w (.cells c t))
  have hsz := h.size
  have hlt : ∀ p ∈ Rs, p.1 < w.heap.size := fun p hp => (h.rows p hp).1.lt
  have hP : ∀ g, PB w0.heap.size Rs v g → g < w.heap.size → PB w0.heap.size ((w.heap.size, t, c) :: Rs) v g := fun g hg hl => ⟨hg.1, fun p hp => by
    rcases List.mem_cons.1 hp with rfl | hp
    · exact Nat.ne_of_gt hl
    · exact hg.2.1 p hp, hg.2.2⟩
  have hbk : ∀ g, PB w0.heap.size Rs v g → g < w.heap.size → (w.alloc (.cells c t)).heap[g]? = w.heap[g]? ∧ PB w0.heap.size ((w.heap.size, t, c) :: Rs) v g := fun g hg hl => ⟨Below.heap_alloc _ _ _ hl, hP g hg hl⟩
  refine ⟨h'.st, h'.fr, fun p hp => ?_, ?_, fun k hk => (h.kvs k hk).keep (by simp) hbk, ?_, fun p hp => ?_, h.rb⟩
  · rcases List.mem_cons.1 hp with rfl | hp
    · exact ⟨RowB.new w t c, hsz⟩
    · exact h'.rows p hp
  · rw [List.map_cons, List.nodup_cons]
    refine ⟨fun hm => ?_, h.nd⟩
    obtain ⟨p, hp, e⟩ := List.mem_map.1 hm
    have := hlt p hp
    dsimp only at e
    omega
  · obtain ⟨cs, o1, o2⟩ := h.own
    exact ⟨cs, o1.alloc _, o2.keep (by simp) hbk⟩
  · rcases List.mem_cons.1 hp with rfl | hp
    · intro e
      obtain ⟨cs, o1, _⟩ := h.own
      have := (o1.lt _ e).2
      dsimp only at this
      omega
    · exact h.ownr p hp
theorem LS.kid (h : LS X w0 w b Rs Ks v K) {b' : Sd} (hS : PSt X w' b') (hF : Fr X.rb w.heap.size w w') {k : Fo} {A : Option Addr} {cap : Nat} (hk : KV w' (fun g => w.heap.size ≤ g) k A cap) : LS X w0 w' b' Rs ((k, A, cap) :: Ks) v K := by
  have h' := h.step hS hF
  have hsz := h.size
  refine ⟨h'.st, h'.fr, h'.rows, h'.nd, fun x hx => ?_, h'.own, h'.ownr, h'.rb⟩
  rcases List.mem_cons.1 hx with rfl | hx
  · refine hk.keep (Nat.le_refl _) (fun g hg _ => ⟨rfl, by omega, fun p hp e => ?_, fun e => ?_⟩)
    · have := (h.rows p hp).1.lt; omega
    · obtain ⟨cs, o1, _⟩ := h.own
      have := (o1.lt _ e).2
      omega
  · exact h'.kvs x hx
theorem LS.slice (h : LS X w0 w b Rs Ks v K) (g0 : Nat) (hg0 : g0 = w.heap.size) {k : Fo} {cs : Array Value} (hf : FC w (PB w0.heap.size Rs v) k cs.toList) : LS X w0 (w.alloc (.cells cs 38)) b Rs ((k, some ⟨g0, 0, none⟩, k.len) :: Ks) v K := by
  subst hg0
  have h' := h.other (bel1 w (.cells cs 38))
  have hsz := h.size
  refine ⟨h'.st, h'.fr, h'.rows, h'.nd, fun x hx => ?_, h'.own, h'.ownr, h'.rb⟩
  rcases List.mem_cons.1 hx with rfl | hx
  · refine KV.new (RowB.new w 38 cs) (hf.keep (by simp) (fun g hg hl => ⟨Below.heap_alloc _ _ _ hl, hg⟩)) ⟨hsz, fun p hp e => ?_, fun e => ?_⟩
    · have := (h.rows p hp).1.lt; omega
    · obtain ⟨cs', o1, _⟩ := h.own
      have := (o1.lt _ e).2
      omega
  · exact h'.kvs x hx
theorem LS.set (h : LS X w0 w b Rs Ks v K) (n : Nat) {g : Nat} {t : TypeId} {c : Array Value} (hn : Rs[n]? = some (g, t, c)) (i : Nat) (u : Value) : LS X w0 (w.setCell ⟨g, i, none⟩ u) b (Rs.set n (g, t, c.setIfInBounds i u)) Ks v K := by
  have hrb := h.rb
  obtain ⟨hlt, hg⟩ := List.getElem?_eq_some_iff.1 hn
  obtain ⟨r1, r2⟩ := h.rows (g, t, c) (by rw [← hg]; exact List.getElem_mem hlt)
  dsimp only at r1 r2
  have hfst : (Rs.set n (g, t, c.setIfInBounds i u)).map Prod.fst = Rs.map Prod.fst := by
    rw [List.map_set]
    apply List.ext_getElem (by simp)
    intro j h1 h2
    rw [List.getElem_set]
    split
    · rename_i e; subst e; simp [hg]
    · rfl
  have hmem : ∀ p ∈ Rs.set n (g, t, c.setIfInBounds i u), ∃ q ∈ Rs, q.1 = p.1 := fun p hp => by
    have : p.1 ∈ (Rs.set n (g, t, c.setIfInBounds i u)).map Prod.fst := List.mem_map_of_mem hp
    rw [hfst] at this
    exact List.mem_map.1 this
  have hgm : (g, t, c) ∈ Rs := by rw [← hg]; exact List.getElem_mem hlt
  have hP : ∀ g', PB w0.heap.size Rs v g' → g' < w.heap.size → (w.setCell ⟨g, i, none⟩ u).heap[g']? = w.heap[g']? ∧ PB w0.heap.size (Rs.set n (g, t, c.setIfInBounds i u)) v g' := fun g' hg' _ => by
    refine ⟨Below.heap_setCell _ _ _ _ (fun e => hg'.2.1 _ hgm e.symm), hg'.1, fun p hp => ?_, hg'.2.2⟩
    obtain ⟨q, hq, e⟩ := hmem p hp
    rw [← e]; exact hg'.2.1 q hq
  refine ⟨h.st.far (by dsimp only; omega) u, h.fr.setCell (by dsimp only; omega) u, fun p hp => ?_, by rw [hfst]; exact h.nd, fun k hk => (h.kvs k hk).keep (by simp [World.setCell]) hP, ?_, fun p hp => ?_, hrb⟩
  · obtain ⟨j, hj, rfl⟩ := List.getElem_of_mem hp
    have hj' : j < Rs.length := by simpa using hj
    rw [List.getElem_set]
    split
    · exact ⟨r1.put i u, r2⟩
    · rename_i ej
      obtain ⟨q1, q2⟩ := h.rows _ (List.getElem_mem hj')
      refine ⟨q1.far (fun e => ?_) u, q2⟩
      have hnd := List.pairwise_iff_getElem.1 h.nd
      dsimp only at e
      rcases Nat.lt_or_gt_of_ne ej with h1 | h1
      · have := hnd n j (by simpa using hlt) (by simpa using hj') h1
        simp [hg, e] at this
      · have := hnd j n (by simpa using hj') (by simpa using hlt) h1
        simp [hg, e] at this
  · obtain ⟨cs, o1, o2⟩ := h.own
    exact ⟨cs, ownsRow_setCell_other o1 (a := ⟨g, i, none⟩) (h.ownr _ hgm) u, o2.keep (by simp [World.setCell]) hP⟩
  · obtain ⟨q, hq, e⟩ := hmem p hp
    rw [← e]; exact h.ownr q hq
theorem LS.push (h : LS X w0 w b Rs Ks v K) {v' : Value} {k : Fo} {news cs : List Value} (hc : w.ownsRow w0.heap.size 38 6 v K.len cs ∧ FC w (PB w0.heap.size Rs v) K cs) (hf : FC w (PB w0.heap.size Rs v) k news) (hown : w'.ownsRow w0.heap.size 38 6 v' (K.len + k.len) (cs ++ news)) (hg : w.grownBy w' v.ownBlock) (hat : ∀ j, v'.ownBlock = some j → v.ownBlock = some j ∨ w.heap.size ≤ j) : LS X w0 w' b Rs Ks v' (K.app k) := by
  have hrb := h.rb
  have hlt := hc.1.lt
  have hP : ∀ g, PB w0.heap.size Rs v g → g < w.heap.size → w'.heap[g]? = w.heap[g]? ∧ PB w0.heap.size Rs v' g := fun g hp hl => by
    refine ⟨hg.block g hl (fun e => hp.2.2 e.symm), hp.1, hp.2.1, fun e => ?_⟩
    rcases hat g e with e | e
    · exact hp.2.2 e
    · omega
  refine ⟨h.st.grown hg (fun j e => ?_), h.fr.grown hg h.size (fun j e => (hlt j e).1), fun p hp => ?_, h.nd, fun x hx => (h.kvs x hx).keep hg.size hP, ⟨cs ++ news, ?_, FC.app K cs (hc.2.keep hg.size hP) (hf.keep hg.size hP)⟩, fun p hp e => ?_, hrb⟩
  · have := (hlt j e).1; omega
  · obtain ⟨r1, r2⟩ := h.rows p hp
    exact ⟨r1.grown hg (fun e => h.ownr p hp e.symm), r2⟩
  · rw [Fo.len_app]; exact hown
  · rcases hat _ e with e | e
    · exact h.ownr p hp e
    · have := (h.rows p hp).1.lt
      omega
theorem LS.list (h : LS X w0 w b Rs Ks v K) : ∃ A cap, v = .slice A K.len cap ∧ K.len ≤ cap ∧ KV w (fun g => w0.heap.size ≤ g) K A cap := by
  obtain ⟨cs, o1, o2⟩ := h.own
  have hv : ∃ A cap, v = .slice A K.len cap ∧ K.len ≤ cap := by
    rcases o1.2 with ⟨rfl, e⟩ | ⟨g, cap, cur, rfl, _, _, hc, _⟩
    · exact ⟨none, 0, by rw [e], by omega⟩
    · exact ⟨_, cap, rfl, hc⟩
  obtain ⟨A, cap, rfl, hc⟩ := hv
  exact ⟨A, cap, rfl, hc, KV.of_own o1 rfl o2 (fun g hg => hg.1) (fun g hg _ => hg) hc⟩
theorem LS.listP (h : LS X w0 w b Rs Ks v K) : ∃ A cap, v = .slice A K.len cap ∧ K.len ≤ cap ∧ KV w (fun g => w0.heap.size ≤ g ∧ ∀ p ∈ Rs, p.1 ≠ g) K A cap := by
  obtain ⟨A, cap, rfl, hc, _⟩ := h.list
  obtain ⟨cs, o1, o2⟩ := h.own
  exact ⟨A, cap, rfl, hc, KV.of_own o1 rfl o2 (fun g hg => ⟨hg.1, hg.2.1⟩) (fun g hg e => ⟨hg, fun p hp e2 => h.ownr p hp (by rw [e2]; exact e)⟩) hc⟩
theorem LS.fresh (h : LS X w0 w b Rs Ks v K) : LS X w0 w b Rs Ks (.slice none 0 0) .nil :=
  ⟨h.st, h.fr, h.rows, h.nd, fun k hk => (h.kvs k hk).keep (Nat.le_refl _) (fun g hg _ => ⟨rfl, hg.1, hg.2.1, by simp [Value.ownBlock]⟩), ⟨[], World.ownsRow_nil _ _ _ _, by rw [FC]⟩, fun p _ => by simp [Value.ownBlock], h.rb⟩
theorem LS.row (h : LS X w0 w b Rs Ks v K) (n : Nat) {g : Nat} {t : TypeId} {c : Array Value} (hn : Rs[n]? = some (g, t, c)) : RowB w g t c := by
  obtain ⟨hlt, hg⟩ := List.getElem?_eq_some_iff.1 hn
  exact (h.rows (g, t, c) (by rw [← hg]; exact List.getElem_mem hlt)).1
theorem LS.kidP (h : LS X w0 w b Rs Ks v K) (n : Nat) {k : Fo} {A : Option Addr} {cap : Nat} (hn : Ks[n]? = some (k, A, cap)) : KV w (PB w0.heap.size Rs v) k A cap := by
  obtain ⟨hlt, hg⟩ := List.getElem?_eq_some_iff.1 hn
  exact h.kvs (k, A, cap) (by rw [← hg]; exact List.getElem_mem hlt)
theorem LS.put6 (h : LS X w0 w b Rs Ks v K) (n : Nat) {g : Nat} {t : TypeId} {c : Array Value} (hn : Rs[n]? = some (g, t, c)) (hc : c.size = 6) (u0 u1 u2 u3 u4 u5 : Value) :
    LS X w0 ((((((w.setCell ⟨g, 0, none⟩ u0).setCell ⟨g, 1, none⟩ u1).setCell ⟨g, 2, none⟩ u2).setCell ⟨g, 3, none⟩ u3).setCell ⟨g, 4, none⟩ u4).setCell ⟨g, 5, none⟩ u5) b (Rs.set n (g, t, #[u0, u1, u2, u3, u4, u5])) Ks v K := by
  have hlt : n < Rs.length := (List.getElem?_eq_some_iff.1 hn).1
  have key : ∀ (l : List Row) (x : Row), l.length = Rs.length → (l.set n x)[n]? = some x := fun l x hl => by rw [List.getElem?_set_self (by omega)]
  have h1 := h.set n hn 0 u0
  have h2 := h1.set n (key _ _ (by simp)) 1 u1
  have h3 := h2.set n (key _ _ (by simp)) 2 u2
  have h4 := h3.set n (key _ _ (by simp)) 3 u3
  have h5 := h4.set n (key _ _ (by simp)) 4 u4
  have h6 := h5.set n (key _ _ (by simp)) 5 u5
  simp only [List.set_set] at h6
  rwa [six hc] at h6
theorem LS.lit (h : LS X w0 w b Rs Ks v K) {k : Fo} {cs : Array Value} (hf : FC w (PB w0.heap.size Rs (.slice none 0 0)) k cs.toList) (g0 : Nat) (hg0 : g0 = w.heap.size) (hm : k.len ≤ maxLen) : LS X w0 (w.alloc (.cells cs 38)) b Rs Ks (.slice (some ⟨g0, 0, none⟩) k.len k.len) k := by
  subst hg0
  have h' := h.fresh.other (bel1 w (.cells cs 38))
  have hsz := h.size
  have hkl := hf.len
  have hbk : ∀ g, PB w0.heap.size Rs (.slice none 0 0) g → g < w.heap.size → (w.alloc (.cells cs 38)).heap[g]? = w.heap[g]? ∧ PB w0.heap.size Rs (.slice (some ⟨w.heap.size, 0, none⟩) k.len k.len) g := fun g hg hl => ⟨Below.heap_alloc _ _ _ hl, hg.1, hg.2.1, by simp [Value.ownBlock]; omega⟩
  refine ⟨h'.st, h'.fr, h'.rows, h'.nd, fun x hx => (h.fresh.kvs x hx).keep (by simp) hbk, ⟨cs.toList, ⟨by simpa using hkl, .inr ⟨w.heap.size, k.len, cs, rfl, hsz, heap_alloc_new w _, Nat.le_refl _, hm, by simpa using hkl, ?_⟩⟩, hf.keep (by simp) hbk⟩, fun p hp => ?_, h.rb⟩
  · rw [List.take_of_length_le (by rw [hkl]; exact Nat.le_refl _)]
  · have := (h.rows p hp).1.lt
    simp [Value.ownBlock]; omega
theorem LS.drop {p : Row} (h : LS X w0 w b (p :: Rs) Ks v K) : LS X w0 w b Rs Ks v K := by
  have hb : ∀ g, PB w0.heap.size (p :: Rs) v g → g < w.heap.size → w.heap[g]? = w.heap[g]? ∧ PB w0.heap.size Rs v g := fun g hg _ => ⟨rfl, hg.1, fun q hq => hg.2.1 q (List.mem_cons_of_mem _ hq), hg.2.2⟩
  obtain ⟨cs, o1, o2⟩ := h.own
  exact ⟨h.st, h.fr, fun q hq => h.rows q (List.mem_cons_of_mem _ hq), (List.nodup_cons.1 h.nd).2, fun k hk => (h.kvs k hk).keep (Nat.le_refl _) hb, ⟨cs, o1, o2.keep (Nat.le_refl _) hb⟩, fun q hq => h.ownr q (List.mem_cons_of_mem _ hq), h.rb⟩
theorem LS.noK (h : LS X w0 w b Rs Ks v K) : LS X w0 w b Rs [] v K :=
  ⟨h.st, h.fr, h.rows, h.nd, fun q hq => by simp at hq, h.own, h.ownr, h.rb⟩
theorem LS.kv {A : Option Addr} {cap n : Nat} (h : LS X w0 w b Rs Ks (.slice A n cap) K) : KV w (fun g => w0.heap.size ≤ g) K A cap := by
  obtain ⟨A', cap', e, hc, hk⟩ := h.list
  obtain ⟨e1, e2, e3⟩ := Value.slice.inj e
  rw [e1, e3]
  exact hk
theorem LS.K1 {k : Kid} (h : LS X w0 w b Rs (k :: Ks) v K) : LS X w0 w b Rs [k] v K :=
  ⟨h.st, h.fr, h.rows, h.nd, fun q hq => h.kvs q (by rw [List.mem_singleton.1 hq]; exact List.mem_cons_self), h.own, h.ownr, h.rb⟩
theorem LS.toKid {A : Option Addr} {cap n : Nat} (h : LS X w0 w b Rs Ks (.slice A n cap) K) : LS X w0 w b Rs ((K, A, cap) :: Ks) (.slice none 0 0) .nil := by
  have hf := h.fresh
  obtain ⟨A', cap', e, hc, hk⟩ := h.listP
  obtain ⟨e1, e2, e3⟩ := Value.slice.inj e
  refine ⟨hf.st, hf.fr, hf.rows, hf.nd, fun x hx => ?_, hf.own, hf.ownr, hf.rb⟩
  rcases List.mem_cons.1 hx with rfl | hx
  · rw [← e1, ← e3] at hk
    exact hk.keep (Nat.le_refl _) (fun g hg _ => ⟨rfl, hg.1, hg.2, by simp [Value.ownBlock]⟩)
  · exact hf.kvs x hx
end Pg
end Go.Proofs.YthjflofcgdfekaaGreatDoor
