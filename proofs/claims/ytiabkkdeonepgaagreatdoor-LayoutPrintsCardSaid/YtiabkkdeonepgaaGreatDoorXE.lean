import Derived.Test.YtiabkkdeonepgaaGreatDoorXD
import Derived.BigQuiet
import Derived.Deep.RegionHeld3
namespace Go.Proofs.YtiabkkdeonepgaaGreatDoor
open Go.RowKit
namespace Ps
def lits : List (List UInt8) := [kInt, kStr, kDyn, kFn, kUse, kDef, kIf, kElse, kWhile, kLet, kPrint, kReturn, kInput, sOpen, sShut, sParO, sParS, sCol, sCom, sSem, sDot, sEq, sEqEq, sLess, sPlus, sMinus, sStar]
structure Wf2 (l : List Tok) : Prop extends Wf l where
  conv : ∀ i (h : i < l.length), i + 1 < l.length → l[i].kind ≠ 0
  keys : ∀ i (h : i < l.length), l[i].kind ≠ 2 → l[i].kind ≠ 5 → i + 1 < l.length → ∀ x ∈ lits, l[i].text.data.toList ≠ x
theorem isM_text {l : List Tok} (W : Wf2 l) {i : Nat} (h : i < l.length) {x : List UInt8} (hx : x ∈ lits) : isM l i x = (decide (i + 1 < l.length) && (l[i].text.data.toList == x)) := by
  unfold isM
  rw [List.getElem?_eq_getElem h]
  dsimp only
  by_cases h1 : i + 1 < l.length
  · rw [decide_eq_true h1, Bool.true_and]
    by_cases h2 : l[i].kind = 2
    · simp [h2]
    · by_cases h5 : l[i].kind = 5
      · simp [h5]
      · have := W.keys i h h2 h5 h1 x hx
        simp [h2, h5, this]
  · have h0 : l[i].kind = 0 := by
      by_cases hk : l[i].kind = 0
      · exact hk
      · exact absurd (W.next i h hk) h1
    simp [h0, h1]
theorem bel_put {B : Nat} {w w' : World} (h : Below B w w') (i : Nat) (u : Value) : Below B w (w'.setCell ⟨B, i, none⟩ u) := h.setCell (p := ⟨B, i, none⟩) (Nat.le_refl _) u
abbrev Sd := Nat × Int
def lastI (X : Cx) : Nat := X.l.length - 1
def pos (X : Cx) (s : Sd) : Nat := if 0 ≤ s.2 then lastI X else s.1
def wrong (s : Sd) : Int := if 0 ≤ s.2 then s.2 else 0
def failS (s : Sd) : Sd := if 0 ≤ s.2 then s else (s.1, (s.1 : Int))
def tk (X : Cx) (s : Sd) (x : List UInt8) : Bool := decide (s.2 < 0) && isM X.l s.1 x
def hasK (X : Cx) (s : Sd) (k : Nat) : Bool := decide (s.2 < 0) && decide (kindAt X.l s.1 = k)
structure PSt (X : Cx) (w : World) (s : Sd) : Prop where
  row : RowB w X.rb 86 #[.slice X.A X.l.length X.c, .int .i64 (pos X s), .bool (decide (0 ≤ s.2)), .int .i64 (wrong s)]
  toks : ∃ g, X.A = some ⟨g, 0, none⟩ ∧ g < X.rb ∧ ∀ i (h : i < X.l.length),
    w.cell? ⟨g, i * 4, none⟩ = some (.int .i64 X.l[i].kind) ∧ w.cell? ⟨g, i * 4 + 1, none⟩ = some (.int .i64 X.l[i].at_) ∧ w.cell? ⟨g, i * 4 + 2, none⟩ = some (.string X.l[i].lead) ∧ w.cell? ⟨g, i * 4 + 3, none⟩ = some (.string X.l[i].text)
  wf : Wf2 X.l
  cap : X.l.length ≤ X.c
  ib : s.2 < 0 → s.1 < X.l.length
  bb : s.2 < X.l.length
variable {X : Cx} {w w' : World} {s s' : Sd}
theorem PSt.toks_below (h : PSt X w s) (hb : Below (X.rb) w w') : ∃ g, X.A = some ⟨g, 0, none⟩ ∧ g < X.rb ∧ ∀ i (h : i < X.l.length),
    w'.cell? ⟨g, i * 4, none⟩ = some (.int .i64 X.l[i].kind) ∧ w'.cell? ⟨g, i * 4 + 1, none⟩ = some (.int .i64 X.l[i].at_) ∧ w'.cell? ⟨g, i * 4 + 2, none⟩ = some (.string X.l[i].lead) ∧ w'.cell? ⟨g, i * 4 + 3, none⟩ = some (.string X.l[i].text) := by
  obtain ⟨g, e, hg, hc⟩ := h.toks
  refine ⟨g, e, hg, fun i hi => ?_⟩
  obtain ⟨c0, c1, c2, c3⟩ := hc i hi
  exact ⟨(hb.cell (p := ⟨g, i * 4, none⟩) hg).trans c0, (hb.cell (p := ⟨g, i * 4 + 1, none⟩) hg).trans c1, (hb.cell (p := ⟨g, i * 4 + 2, none⟩) hg).trans c2, (hb.cell (p := ⟨g, i * 4 + 3, none⟩) hg).trans c3⟩
theorem PSt.lt (h : PSt X w s) : X.rb < w.heap.size := h.row.lt
theorem PSt.below (h : PSt X w s) (hb : Below w.heap.size w w') : PSt X w' s :=
  ⟨h.row.below hb h.row.lt, h.toks_below (hb.mono (by have := h.row.lt; omega)), h.wf, h.cap, h.ib, h.bb⟩
theorem PSt.alloc (h : PSt X w s) (o : Obj) : PSt X (w.alloc o) s := h.below ((Below.refl _ _).alloc (Nat.le_refl _) o)
theorem PSt.far (h : PSt X w s) {p : Addr} (hp : X.rb < p.block) (u : Value) : PSt X (w.setCell p u) s :=
  ⟨h.row.far (by omega) u, h.toks_below ((Below.refl _ _).setCell (by omega) u), h.wf, h.cap, h.ib, h.bb⟩
theorem PSt.grown {row : Option Nat} (h : PSt X w s) (hg : w.grownBy w' row) (hr : ∀ k, row = some k → X.rb < k) : PSt X w' s := by
  have hl := h.row.lt
  have hb : Below (X.rb + 1) w w' := (Below.refl _ _).grown hg (by omega) (fun k hk => hr k hk)
  exact ⟨h.row.below hb (by omega), h.toks_below (hb.mono (by omega)), h.wf, h.cap, h.ib, h.bb⟩
theorem PSt.len (h : PSt X w s) : 0 < X.l.length ∧ X.l.length ≤ 4000 := ⟨h.wf.pos, h.wf.le⟩
theorem PSt.last (h : PSt X w s) : lastI X + 1 = X.l.length := by have := h.len; unfold lastI; omega
theorem PSt.pos_lt (h : PSt X w s) : pos X s < X.l.length := by
  unfold pos
  split
  · have := h.last; omega
  · exact h.ib (by omega)
theorem PSt.wrong_le (h : PSt X w s) : 0 ≤ wrong s ∧ wrong s < 4000 := by
  have := h.bb
  have := h.len
  unfold wrong
  split <;> omega
theorem PSt.go (h : PSt X w s) (hs : s.2 < 0) (hi : s.1 + 1 < X.l.length) : PSt X (w.setCell ⟨X.rb, 1, none⟩ (.int .i64 ((s.1 + 1 : Nat) : Int))) (s.1 + 1, s.2) := by
  have hr := h.row.put 1 (.int .i64 ((s.1 + 1 : Nat) : Int))
  refine ⟨?_, h.toks_below (bel_put (Below.refl _ _) _ _), h.wf, h.cap, fun _ => hi, h.bb⟩
  have e : pos X (s.1 + 1, s.2) = s.1 + 1 := by unfold pos; rw [if_neg (by dsimp only; omega)]
  rw [e]
  exact hr
theorem PSt.stop (h : PSt X w s) (hs : s.2 < 0) : PSt X (((w.setCell ⟨X.rb, 2, none⟩ (.bool true)).setCell ⟨X.rb, 3, none⟩ (.int .i64 (s.1 : Int))).setCell ⟨X.rb, 1, none⟩ (.int .i64 (lastI X : Int))) (failS s) := by
  have hr := ((h.row.put 2 (.bool true)).put 3 (.int .i64 (s.1 : Int))).put 1 (.int .i64 (lastI X : Int))
  have hf : failS s = (s.1, (s.1 : Int)) := by unfold failS; rw [if_neg (by omega)]
  have hi := h.ib hs
  refine ⟨?_, h.toks_below (bel_put (bel_put (bel_put (Below.refl _ _) _ _) _ _) _ _), h.wf, h.cap, fun hh => ?_, ?_⟩
  · rw [hf]
    have e : pos X (s.1, (s.1 : Int)) = lastI X := by unfold pos; rw [if_pos (by dsimp only; omega)]
    have e2 : wrong (s.1, (s.1 : Int)) = (s.1 : Int) := by unfold wrong; rw [if_pos (by dsimp only; omega)]
    have e3 : decide (0 ≤ ((s.1, (s.1 : Int)) : Sd).2) = true := decide_eq_true (by dsimp only; omega)
    rw [e, e2, e3]
    exact hr
  · rw [hf] at hh; dsimp only at hh; omega
  · rw [hf]; dsimp only; omega
theorem PSt.mk_fail (h : PSt X w s) (hs : s.2 < 0) (hb : Below X.rb w w') (hr : RowB w' X.rb 86 #[.slice X.A X.l.length X.c, .int .i64 (lastI X : Int), .bool true, .int .i64 (s.1 : Int)]) : PSt X w' (failS s) := by
  have hf : failS s = (s.1, (s.1 : Int)) := by unfold failS; rw [if_neg (by omega)]
  have hi := h.ib hs
  refine ⟨?_, h.toks_below hb, h.wf, h.cap, fun hh => ?_, ?_⟩
  · rw [hf]
    have e : pos X (s.1, (s.1 : Int)) = lastI X := by unfold pos; rw [if_pos (by dsimp only; omega)]
    have e2 : wrong (s.1, (s.1 : Int)) = (s.1 : Int) := by unfold wrong; rw [if_pos (by dsimp only; omega)]
    have e3 : decide (0 ≤ ((s.1, (s.1 : Int)) : Sd).2) = true := decide_eq_true (by dsimp only; omega)
    rw [e, e2, e3]
    exact hr
  · rw [hf] at hh; dsimp only at hh; omega
  · rw [hf]; dsimp only; omega
theorem PSt.stay (h : PSt X w s) (hs : 0 ≤ s.2) : PSt X (w.setCell ⟨X.rb, 1, none⟩ (.int .i64 (lastI X : Int))) (failS s) := by
  have hr := h.row.put 1 (.int .i64 (lastI X : Int))
  have hf : failS s = s := by unfold failS; rw [if_pos hs]
  rw [hf]
  refine ⟨?_, h.toks_below (bel_put (Below.refl _ _) _ _), h.wf, h.cap, h.ib, h.bb⟩
  have e : pos X s = lastI X := by unfold pos; rw [if_pos hs]
  rw [e]
  exact hr
theorem tk_good {x : List UInt8} (h : tk X s x = true) : s.2 < 0 ∧ isM X.l s.1 x = true := by
  unfold tk at h
  rw [Bool.and_eq_true, decide_eq_true_eq] at h
  exact h
theorem tk_bad {x : List UInt8} (h : tk X s x = false) : 0 ≤ s.2 ∨ isM X.l s.1 x = false := by
  unfold tk at h
  rw [Bool.and_eq_false_iff, decide_eq_false_iff_not] at h
  rcases h with h | h
  · left; omega
  · exact .inr h
end Ps
end Go.Proofs.YtiabkkdeonepgaaGreatDoor
namespace Go.Proofs.YtiabkkdeonepgaaGreatDoor
open Go.RowKit
namespace Pg
open Ps
abbrev Row := Nat × TypeId × Array Value
abbrev Kid := Fo × Option Addr × Nat
def PB (lo : Nat) (Rs : List Row) (v : Value) (g : Nat) : Prop := lo ≤ g ∧ (∀ p ∈ Rs, p.1 ≠ g) ∧ v.ownBlock ≠ some g
structure LS (X : Cx) (w0 w : World) (b : Sd) (Rs : List Row) (Ks : List Kid) (v : Value) (K : Fo) : Prop where
  st : PSt X w b
  fr : Fr X.rb w0.heap.size w0 w
  rows : ∀ p ∈ Rs, RowB w p.1 p.2.1 p.2.2 ∧ w0.heap.size ≤ p.1
  nd : (Rs.map Prod.fst).Nodup
  kvs : ∀ k ∈ Ks, KV w (PB w0.heap.size Rs v) k.1 k.2.1 k.2.2
  own : ∃ cs, w.ownsRow w0.heap.size 25 6 v K.len cs ∧ FC w (PB w0.heap.size Rs v) K cs
  ownr : ∀ p ∈ Rs, v.ownBlock ≠ some p.1
  rb : X.rb < w0.heap.size
variable {X : Cx} {w0 w w' : World} {b : Sd} {Rs : List Row} {Ks : List Kid} {v : Value} {K : Fo}
theorem LS.start (h : PSt X w b) : LS X w w b [] [] (.slice none 0 0) .nil :=
  ⟨h, Fr.refl _ _ _, (by simp), (by simp), (by simp), ⟨[], World.ownsRow_nil _ _ _ _, by rw [FC]⟩, (by simp), h.row.lt⟩
theorem LS.size (h : LS X w0 w b Rs Ks v K) : w0.heap.size ≤ w.heap.size := h.fr.size
theorem LS.step (h : LS X w0 w b Rs Ks v K) {b' : Sd} (hS : PSt X w' b') (hF : Fr X.rb w.heap.size w w') : LS X w0 w' b' Rs Ks v K := by
  have hrb := h.rb
  have hb : ∀ g, PB w0.heap.size Rs v g → g < w.heap.size → w'.heap[g]? = w.heap[g]? ∧ PB w0.heap.size Rs v g := fun g hg hl => ⟨hF.block g hl (by have := hg.1; omega), hg⟩
  refine ⟨hS, h.fr.trans (hF.mono h.size), fun p hp => ?_, h.nd, fun k hk => (h.kvs k hk).keep hF.size hb, ?_, h.ownr, hrb⟩
  · obtain ⟨r1, r2⟩ := h.rows p hp
    exact ⟨hF.row r1 r1.lt (by omega), r2⟩
  · obtain ⟨cs, o1, o2⟩ := h.own
    exact ⟨cs, hF.own o1 hrb, o2.keep hF.size hb⟩
theorem LS.other (h : LS X w0 w b Rs Ks v K) (hb : Below w.heap.size w w') : LS X w0 w' b Rs Ks v K := h.step (h.st.below hb) (.of hb)
theorem LS.alloc (h : LS X w0 w b Rs Ks v K) (g0 : Nat) (hg0 : g0 = w.heap.size) (t : TypeId) (c : Array Value) : LS X w0 (w.alloc (.cells c t)) b ((g0, t, c) :: Rs) Ks v K := by
  subst hg0
  have h' := h.other (bel1 w (.cells c t))
  have hsz := h.size
  have hlt : ∀ p ∈ Rs, p.1 < w.heap.size := fun p hp => (h.rows p hp).1.lt
  have hP : ∀ g, PB w0.heap.size Rs v g → g < w.heap.size → PB w0.heap.size ((w.heap.size, t, c) :: Rs) v g := fun g hg hl => ⟨hg.1, fun p hp => by
    rcases List.mem_cons.1 hp with rfl | hp
    · exact Nat.ne_of_gt hl
    · exact hg.2.1 p hp, hg.2.2⟩
  have hbk : ∀ g, PB w0.heap.size Rs v g → g < w.heap.size → (w.alloc (.cells c t)).heap[g]? = w.heap[g]? ∧ PB w0.heap.size ((w.heap.size, t, c) :: Rs) v g := fun g hg hl => ⟨Below.heap_alloc _ _ _ hl, hP g hg hl⟩
  refine ⟨h'.st, h'.fr, fun p hp => ?_, ?_, fun k hk => (h.kvs k hk).keep (by simp) hbk, ?_, fun p hp => ?_, h.rb⟩
  · rcases List.mem_cons.1 hp with rfl | hp
    · exact ⟨RowB.new w t c, hsz⟩
    · exact h'.rows p hp
  · rw [List.map_cons, List.nodup_cons]
    refine ⟨fun hm => ?_, h.nd⟩
    obtain ⟨p, hp, e⟩ := List.mem_map.1 hm
    have := hlt p hp
    dsimp only at e
    omega
  · obtain ⟨cs, o1, o2⟩ := h.own
    exact ⟨cs, o1.alloc _, o2.keep (by simp) hbk⟩
  · rcases List.mem_cons.1 hp with rfl | hp
    · intro e
      obtain ⟨cs, o1, _⟩ := h.own
      have := (o1.lt _ e).2
      dsimp only at this
      omega
    · exact h.ownr p hp
theorem LS.kid (h : LS X w0 w b Rs Ks v K) {b' : Sd} (hS : PSt X w' b') (hF : Fr X.rb w.heap.size w w') {k : Fo} {A : Option Addr} {cap : Nat} (hk : KV w' (fun g => w.heap.size ≤ g) k A cap) : LS X w0 w' b' Rs ((k, A, cap) :: Ks) v K := by
  have h' := h.step hS hF
  have hsz := h.size
  refine ⟨h'.st, h'.fr, h'.rows, h'.nd, fun x hx => ?_, h'.own, h'.ownr, h'.rb⟩
  rcases List.mem_cons.1 hx with rfl | hx
  · refine hk.keep (Nat.le_refl _) (fun g hg _ => ⟨rfl, by omega, fun p hp e => ?_, fun e => ?_⟩)
    · have := (h.rows p hp).1.lt; omega
    · obtain ⟨cs, o1, _⟩ := h.own
      have := (o1.lt _ e).2
      omega
  · exact h'.kvs x hx
theorem LS.slice (h : LS X w0 w b Rs Ks v K) (g0 : Nat) (hg0 : g0 = w.heap.size) {k : Fo} {cs : Array Value} (hf : FC w (PB w0.heap.size Rs v) k cs.toList) : LS X w0 (w.alloc (.cells cs 25)) b Rs ((k, some ⟨g0, 0, none⟩, k.len) :: Ks) v K := by
  subst hg0
  have h' := h.other (bel1 w (.cells cs 25))
  have hsz := h.size
  refine ⟨h'.st, h'.fr, h'.rows, h'.nd, fun x hx => ?_, h'.own, h'.ownr, h'.rb⟩
  rcases List.mem_cons.1 hx with rfl | hx
  · refine KV.new (RowB.new w 25 cs) (hf.keep (by simp) (fun g hg hl => ⟨Below.heap_alloc _ _ _ hl, hg⟩)) ⟨hsz, fun p hp e => ?_, fun e => ?_⟩
    · have := (h.rows p hp).1.lt; omega
    · obtain ⟨cs', o1, _⟩ := h.own
      have := (o1.lt _ e).2
      omega
  · exact h'.kvs x hx
theorem LS.set (h : LS X w0 w b Rs Ks v K) (n : Nat) {g : Nat} {t : TypeId} {c : Array Value} (hn : Rs[n]? = some (g, t, c)) (i : Nat) (u : Value) : LS X w0 (w.setCell ⟨g, i, none⟩ u) b (Rs.set n (g, t, c.setIfInBounds i u)) Ks v K := by
  have hrb := h.rb
  obtain ⟨hlt, hg⟩ := List.getElem?_eq_some_iff.1 hn
  obtain ⟨r1, r2⟩ := h.rows (g, t, c) (by rw [← hg]; exact List.getElem_mem hlt)
  dsimp only at r1 r2
  have hfst : (Rs.set n (g, t, c.setIfInBounds i u)).map Prod.fst = Rs.map Prod.fst := by
    rw [List.map_set]
    apply List.ext_getElem (by simp)
    intro j h1 h2
    rw [List.getElem_set]
    split
    · rename_i e; subst e; simp [hg]
    · rfl
  have hmem : ∀ p ∈ Rs.set n (g, t, c.setIfInBounds i u), ∃ q ∈ Rs, q.1 = p.1 := fun p hp => by
    have : p.1 ∈ (Rs.set n (g, t, c.setIfInBounds i u)).map Prod.fst := List.mem_map_of_mem hp
    rw [hfst] at this
    exact List.mem_map.1 this
  have hgm : (g, t, c) ∈ Rs := by rw [← hg]; exact List.getElem_mem hlt
  have hP : ∀ g', PB w0.heap.size Rs v g' → g' < w.heap.size → (w.setCell ⟨g, i, none⟩ u).heap[g']? = w.heap[g']? ∧ PB w0.heap.size (Rs.set n (g, t, c.setIfInBounds i u)) v g' := fun g' hg' _ => by
    refine ⟨Below.heap_setCell _ _ _ _ (fun e => hg'.2.1 _ hgm e.symm), hg'.1, fun p hp => ?_, hg'.2.2⟩
    obtain ⟨q, hq, e⟩ := hmem p hp
    rw [← e]; exact hg'.2.1 q hq
  refine ⟨h.st.far (by dsimp only; omega) u, h.fr.setCell (by dsimp only; omega) u, fun p hp => ?_, by rw [hfst]; exact h.nd, fun k hk => (h.kvs k hk).keep (by simp [World.setCell]) hP, ?_, fun p hp => ?_, hrb⟩
  · obtain ⟨j, hj, rfl⟩ := List.getElem_of_mem hp
    have hj' : j < Rs.length := by simpa using hj
    rw [List.getElem_set]
    split
    · exact ⟨r1.put i u, r2⟩
    · rename_i ej
      obtain ⟨q1, q2⟩ := h.rows _ (List.getElem_mem hj')
      refine ⟨q1.far (fun e => ?_) u, q2⟩
      have hnd := List.pairwise_iff_getElem.1 h.nd
      dsimp only at e
      rcases Nat.lt_or_gt_of_ne ej with h1 | h1
      · have := hnd n j (by simpa using hlt) (by simpa using hj') h1
        simp [hg, e] at this
      · have := hnd j n (by simpa using hj') (by simpa using hlt) h1
        simp [hg, e] at this
  · obtain ⟨cs, o1, o2⟩ := h.own
    exact ⟨cs, ownsRow_setCell_other o1 (a := ⟨g, i, none⟩) (h.ownr _ hgm) u, o2.keep (by simp [World.setCell]) hP⟩
  · obtain ⟨q, hq, e⟩ := hmem p hp
    rw [← e]; exact h.ownr q hq
theorem LS.push (h : LS X w0 w b Rs Ks v K) {v' : Value} {k : Fo} {news cs : List Value} (hc : w.ownsRow w0.heap.size 25 6 v K.len cs ∧ FC w (PB w0.heap.size Rs v) K cs) (hf : FC w (PB w0.heap.size Rs v) k news) (hown : w'.ownsRow w0.heap.size 25 6 v' (K.len + k.len) (cs ++ news)) (hg : w.grownBy w' v.ownBlock) (hat : ∀ j, v'.ownBlock = some j → v.ownBlock = some j ∨ w.heap.size ≤ j) : LS X w0 w' b Rs Ks v' (K.app k) := by
  have hrb := h.rb
  have hlt := hc.1.lt
  have hP : ∀ g, PB w0.heap.size Rs v g → g < w.heap.size → w'.heap[g]? = w.heap[g]? ∧ PB w0.heap.size Rs v' g := fun g hp hl => by
    refine ⟨hg.block g hl (fun e => hp.2.2 e.symm), hp.1, hp.2.1, fun e => ?_⟩
    rcases hat g e with e | e
    · exact hp.2.2 e
    · omega
  refine ⟨h.st.grown hg (fun j e => ?_), h.fr.grown hg h.size (fun j e => (hlt j e).1), fun p hp => ?_, h.nd, fun x hx => (h.kvs x hx).keep hg.size hP, ⟨cs ++ news, ?_, FC.app K cs (hc.2.keep hg.size hP) (hf.keep hg.size hP)⟩, fun p hp e => ?_, hrb⟩
  · have := (hlt j e).1; omega
  · obtain ⟨r1, r2⟩ := h.rows p hp
    exact ⟨r1.grown hg (fun e => h.ownr p hp e.symm), r2⟩
  · rw [Fo.len_app]; exact hown
  · rcases hat _ e with e | e
    · exact h.ownr p hp e
    · have := (h.rows p hp).1.lt
      omega
theorem LS.list (h : LS X w0 w b Rs Ks v K) : ∃ A cap, v = .slice A K.len cap ∧ K.len ≤ cap ∧ KV w (fun g => w0.heap.size ≤ g) K A cap := by
  obtain ⟨cs, o1, o2⟩ := h.own
  have hv : ∃ A cap, v = .slice A K.len cap ∧ K.len ≤ cap := by
    rcases o1.2 with ⟨rfl, e⟩ | ⟨g, cap, cur, rfl, _, _, hc, _⟩
    · exact ⟨none, 0, by rw [e], by omega⟩
    · exact ⟨_, cap, rfl, hc⟩
  obtain ⟨A, cap, rfl, hc⟩ := hv
  exact ⟨A, cap, rfl, hc, KV.of_own o1 rfl o2 (fun g hg => hg.1) (fun g hg _ => hg) hc⟩
theorem LS.listP (h : LS X w0 w b Rs Ks v K) : ∃ A cap, v = .slice A K.len cap ∧ K.len ≤ cap ∧ KV w (fun g => w0.heap.size ≤ g ∧ ∀ p ∈ Rs, p.1 ≠ g) K A cap := by
  obtain ⟨A, cap, rfl, hc, _⟩ := h.list
  obtain ⟨cs, o1, o2⟩ := h.own
  exact ⟨A, cap, rfl, hc, KV.of_own o1 rfl o2 (fun g hg => ⟨hg.1, hg.2.1⟩) (fun g hg e => ⟨hg, fun p hp e2 => h.ownr p hp (by rw [e2]; exact e)⟩) hc⟩
theorem LS.fresh (h : LS X w0 w b Rs Ks v K) : LS X w0 w b Rs Ks (.slice none 0 0) .nil :=
  ⟨h.st, h.fr, h.rows, h.nd, fun k hk => (h.kvs k hk).keep (Nat.le_refl _) (fun g hg _ => ⟨rfl, hg.1, hg.2.1, by simp [Value.ownBlock]⟩), ⟨[], World.ownsRow_nil _ _ _ _, by rw [FC]⟩, fun p _ => by simp [Value.ownBlock], h.rb⟩
theorem LS.row (h : LS X w0 w b Rs Ks v K) (n : Nat) {g : Nat} {t : TypeId} {c : Array Value} (hn : Rs[n]? = some (g, t, c)) : RowB w g t c := by
  obtain ⟨hlt, hg⟩ := List.getElem?_eq_some_iff.1 hn
  exact (h.rows (g, t, c) (by rw [← hg]; exact List.getElem_mem hlt)).1
theorem LS.kidP (h : LS X w0 w b Rs Ks v K) (n : Nat) {k : Fo} {A : Option Addr} {cap : Nat} (hn : Ks[n]? = some (k, A, cap)) : KV w (PB w0.heap.size Rs v) k A cap := by
  obtain ⟨hlt, hg⟩ := List.getElem?_eq_some_iff.1 hn
  exact h.kvs (k, A, cap) (by rw [← hg]; exact List.getElem_mem hlt)
theorem LS.put6 (h : LS X w0 w b Rs Ks v K) (n : Nat) {g : Nat} {t : TypeId} {c : Array Value} (hn : Rs[n]? = some (g, t, c)) (hc : c.size = 6) (u0 u1 u2 u3 u4 u5 : Value) :
    LS X w0 ((((((w.setCell ⟨g, 0, none⟩ u0).setCell ⟨g, 1, none⟩ u1).setCell ⟨g, 2, none⟩ u2).setCell ⟨g, 3, none⟩ u3).setCell ⟨g, 4, none⟩ u4).setCell ⟨g, 5, none⟩ u5) b (Rs.set n (g, t, #[u0, u1, u2, u3, u4, u5])) Ks v K := by
  have hlt : n < Rs.length := (List.getElem?_eq_some_iff.1 hn).1
  have key : ∀ (l : List Row) (x : Row), l.length = Rs.length → (l.set n x)[n]? = some x := fun l x hl => by rw [List.getElem?_set_self (by omega)]
  have h1 := h.set n hn 0 u0
  have h2 := h1.set n (key _ _ (by simp)) 1 u1
  have h3 := h2.set n (key _ _ (by simp)) 2 u2
  have h4 := h3.set n (key _ _ (by simp)) 3 u3
  have h5 := h4.set n (key _ _ (by simp)) 4 u4
  have h6 := h5.set n (key _ _ (by simp)) 5 u5
  simp only [List.set_set] at h6
  rwa [six hc] at h6
theorem LS.lit (h : LS X w0 w b Rs Ks v K) {k : Fo} {cs : Array Value} (hf : FC w (PB w0.heap.size Rs (.slice none 0 0)) k cs.toList) (g0 : Nat) (hg0 : g0 = w.heap.size) (hm : k.len ≤ maxLen) : LS X w0 (w.alloc (.cells cs 25)) b Rs Ks (.slice (some ⟨g0, 0, none⟩) k.len k.len) k := by
  subst hg0
  have h' := h.fresh.other (bel1 w (.cells cs 25))
  have hsz := h.size
  have hkl := hf.len
  have hbk : ∀ g, PB w0.heap.size Rs (.slice none 0 0) g → g < w.heap.size → (w.alloc (.cells cs 25)).heap[g]? = w.heap[g]? ∧ PB w0.heap.size Rs (.slice (some ⟨w.heap.size, 0, none⟩) k.len k.len) g := fun g hg hl => ⟨Below.heap_alloc _ _ _ hl, hg.1, hg.2.1, by simp [Value.ownBlock]; omega⟩
  refine ⟨h'.st, h'.fr, h'.rows, h'.nd, fun x hx => (h.fresh.kvs x hx).keep (by simp) hbk, ⟨cs.toList, ⟨by simpa using hkl, .inr ⟨w.heap.size, k.len, cs, rfl, hsz, heap_alloc_new w _, Nat.le_refl _, hm, by simpa using hkl, ?_⟩⟩, hf.keep (by simp) hbk⟩, fun p hp => ?_, h.rb⟩
  · rw [List.take_of_length_le (by rw [hkl]; exact Nat.le_refl _)]
  · have := (h.rows p hp).1.lt
    simp [Value.ownBlock]; omega
theorem LS.drop {p : Row} (h : LS X w0 w b (p :: Rs) Ks v K) : LS X w0 w b Rs Ks v K := by
  have hb : ∀ g, PB w0.heap.size (p :: Rs) v g → g < w.heap.size → w.heap[g]? = w.heap[g]? ∧ PB w0.heap.size Rs v g := fun g hg _ => ⟨rfl, hg.1, fun q hq => hg.2.1 q (List.mem_cons_of_mem _ hq), hg.2.2⟩
  obtain ⟨cs, o1, o2⟩ := h.own
  exact ⟨h.st, h.fr, fun q hq => h.rows q (List.mem_cons_of_mem _ hq), (List.nodup_cons.1 h.nd).2, fun k hk => (h.kvs k hk).keep (Nat.le_refl _) hb, ⟨cs, o1, o2.keep (Nat.le_refl _) hb⟩, fun q hq => h.ownr q (List.mem_cons_of_mem _ hq), h.rb⟩
theorem LS.noK (h : LS X w0 w b Rs Ks v K) : LS X w0 w b Rs [] v K :=
  ⟨h.st, h.fr, h.rows, h.nd, fun q hq => by simp at hq, h.own, h.ownr, h.rb⟩
theorem LS.kv {A : Option Addr} {cap n : Nat} (h : LS X w0 w b Rs Ks (.slice A n cap) K) : KV w (fun g => w0.heap.size ≤ g) K A cap := by
  obtain ⟨A', cap', e, hc, hk⟩ := h.list
  obtain ⟨e1, e2, e3⟩ := Value.slice.inj e
  rw [e1, e3]
  exact hk
theorem LS.K1 {k : Kid} (h : LS X w0 w b Rs (k :: Ks) v K) : LS X w0 w b Rs [k] v K :=
  ⟨h.st, h.fr, h.rows, h.nd, fun q hq => h.kvs q (by rw [List.mem_singleton.1 hq]; exact List.mem_cons_self), h.own, h.ownr, h.rb⟩
theorem LS.toKid {A : Option Addr} {cap n : Nat} (h : LS X w0 w b Rs Ks (.slice A n cap) K) : LS X w0 w b Rs ((K, A, cap) :: Ks) (.slice none 0 0) .nil := by
  have hf := h.fresh
  obtain ⟨A', cap', e, hc, hk⟩ := h.listP
  obtain ⟨e1, e2, e3⟩ := Value.slice.inj e
  refine ⟨hf.st, hf.fr, hf.rows, hf.nd, fun x hx => ?_, hf.own, hf.ownr, hf.rb⟩
  rcases List.mem_cons.1 hx with rfl | hx
  · rw [← e1, ← e3] at hk
    exact hk.keep (Nat.le_refl _) (fun g hg _ => ⟨rfl, hg.1, hg.2, by simp [Value.ownBlock]⟩)
  · exact hf.kvs x hx
end Pg
end Go.Proofs.YtiabkkdeonepgaaGreatDoor
namespace Go.Proofs.YtiabkkdeonepgaaGreatDoor
open Go.RowKit
namespace Pg
open Ps
set_option maxHeartbeats 2000000 in
theorem end_raw (X : Cx) (v1 v2 v3 : Value) (w : World) (hr : RowB w X.rb 86 #[.slice X.A X.l.length X.c, v1, v2, v3]) (h1 : lastI X + 1 = X.l.length) (h2 : X.l.length ≤ 4000) :
    Calls Tryz.prog 64 #[X.p] w fun e w' => e = .returned (.int .i64 (lastI X : Int)) ∧ ∃ n, w' = w.drewN n := by
  have rr := hr.cell
  have e1 : IntKind.i64.wrap ((X.l.length : Int) - 1) = (lastI X : Int) := by rw [IntKind.wrap_i64]; omega
  clear hr h1
  go_enter Tryz.func64, Tryz.ntmps64
  go_wp2_with fail
  go_ret
  exact ⟨rfl, 0, rfl⟩
theorem end_rawB (X : Cx) (v1 v2 v3 : Value) (w : World) (hr : RowB w X.rb 86 #[.slice X.A X.l.length X.c, v1, v2, v3]) (h1 : lastI X + 1 = X.l.length) (h2 : X.l.length ≤ 4000) :
    Calls Tryz.prog 64 #[X.p] w fun e w' => e = .returned (.int .i64 (lastI X : Int)) ∧ Below w.heap.size w w' := (end_raw X v1 v2 v3 w hr h1 h2).mono fun e w' ⟨h, n, hn⟩ => ⟨h, by rw [hn]; exact below_drewN (Below.refl _ _) n⟩
theorem end_q (X : Cx) (s : Sd) (w : World) (hS : PSt X w s) :
    Calls Tryz.prog 64 #[X.p] w fun e w' => e = .returned (.int .i64 (lastI X : Int)) ∧ ∃ n, w' = w.drewN n := end_raw X _ _ _ w hS.row hS.last hS.len.2
theorem end_any (X : Cx) (s : Sd) (w : World) (hS : PSt X w s) :
    Calls Tryz.prog 64 #[X.p] w fun e w' => e = .returned (.int .i64 (lastI X : Int)) ∧ Below w.heap.size w w' := (end_q X s w hS).mono fun e w' ⟨h, n, hn⟩ => ⟨h, by rw [hn]; exact below_drewN (Below.refl _ _) n⟩
set_option maxHeartbeats 2000000 in
theorem tells_any (X : Cx) (s : Sd) (i : Nat) (x : ByteArray) (w : World) (hS : PSt X w s) (hi : i < X.l.length) (hx : x.data.toList ∈ lits) :
    Calls Tryz.prog 116 #[X.p, .int .i64 i, .string x] w fun e w' => e = .returned (.bool (isM X.l i x.data.toList)) ∧ Below w.heap.size w w' := by
  have hz := isM_text hS.wf hi hx
  obtain ⟨z, hzz⟩ : ∃ z, z = isM X.l i x.data.toList := ⟨_, rfl⟩
  rw [← hzz] at hz ⊢
  have CE := Lib.hid (end_any X s w hS)
  have hl := hS.len
  have hla := hS.last
  have rr := hS.row.cell
  have hcap := hS.cap
  obtain ⟨g, eg, lg, hc⟩ := hS.toks
  obtain ⟨c0, c1, c2, c3⟩ := hc i hi
  have hil : (i : Int) < (X.l.length : Int) := by omega
  rw [eg] at rr
  have HC := Lib.hid hc
  have hlg : g < w.heap.size := by have := hS.lt; omega
  have hrb := hS.lt
  generalize X.l[i] = t at *
  obtain ⟨kd, a, ld, tx⟩ := t
  dsimp only at *
  clear hc hS hzz
  by_cases h1 : i + 1 < X.l.length
  · rw [decide_eq_true h1, Bool.true_and] at hz
    have HZ := Lib.hid hz
    clear hz
    go_enter Tryz.func116, Tryz.ntmps116
    go_wp2_with fail
    refine CE.out.mono ?_
    rintro e w1 ⟨rfl, hb⟩
    have r1 : ∀ k, w1.cell? ⟨X.rb, k, none⟩ = w.cell? ⟨X.rb, k, none⟩ := fun k => (bcell hb).1 _ _ hrb
    have c3' : w1.cell? ⟨g, i * 4 + 3, none⟩ = some (.string tx) := ((bcell hb).1 _ _ hlg).trans c3
    have rr1 := fun k => (r1 k).trans (rr k)
    have HB := Lib.hid hb
    clear r1 hb rr
    go_wp2_with fail
    go_ret
    exact ⟨rb (by rw [HZ.out]; simp [ByteArray.toList_eq]), HB.out⟩
  · rw [decide_eq_false h1, Bool.false_and] at hz
    subst hz
    go_enter Tryz.func116, Tryz.ntmps116
    go_wp2_with fail
    refine CE.out.mono ?_
    rintro e w1 ⟨rfl, hb⟩
    have HB := Lib.hid hb
    clear hb
    go_wp2_with fail
    go_ret
    exact ⟨rfl, HB.out⟩
theorem PSt.pos_on {X : Cx} {w : World} {s : Sd} (h : PSt X w s) (hp : pos X s + 1 < X.l.length) : s.2 < 0 ∧ pos X s = s.1 := by
  have := h.last
  unfold pos at hp ⊢
  split
  · rename_i h1; rw [if_pos h1] at hp; omega
  · exact ⟨by omega, rfl⟩
theorem PSt.pos_end {X : Cx} {w : World} {s : Sd} (h : PSt X w s) (hp : ¬ pos X s + 1 < X.l.length) : (∀ k, k ≠ 0 → hasK X s k = false) ∧ (∀ x, tk X s x = false) := by
  have key : ∀ (_ : s.2 < 0), kindAt X.l s.1 = 0 := fun hs => by
    have e : pos X s = s.1 := by unfold pos; rw [if_neg (by omega)]
    by_cases hk : kindAt X.l s.1 = 0
    · exact hk
    · rw [e] at hp; exact absurd (kindAt_next h.wf.toWf hk) hp
  constructor
  · intro k hk
    unfold hasK
    by_cases hs : s.2 < 0
    · rw [key hs]; simp; omega
    · simp [hs]
  · intro x
    unfold tk
    by_cases hs : s.2 < 0
    · have e : pos X s = s.1 := by unfold pos; rw [if_neg (by omega)]
      cases hm : isM X.l s.1 x
      · simp
      · rw [e] at hp; exact absurd (isM_next h.wf.toWf hm) hp
    · simp [hs]
set_option maxHeartbeats 2000000 in
theorem has_any (X : Cx) (s : Sd) (k : Nat) (w : World) (hS : PSt X w s) (hk : k ≠ 0) (hk2 : k < 10) :
    Calls Tryz.prog 118 #[X.p, .int .i64 k] w fun e w' => e = .returned (.bool (hasK X s k)) ∧ Below w.heap.size w w' := by
  have CE : ∀ n, Calls Tryz.prog 64 #[X.p] (w.drewN n) fun e w' => e = .returned (.int .i64 (lastI X : Int)) ∧ ∃ m, w' = (w.drewN n).drewN m := fun n => end_q X s _ (hS.below (below_drewN (Below.refl _ _) n))
  have CEH := Lib.hid CE
  have hl := hS.len
  have hla := hS.last
  have hpl := hS.pos_lt
  have rr := hS.row.cell
  have hcap := hS.cap
  obtain ⟨g, eg, lg, hc⟩ := hS.toks
  rw [eg] at rr
  have hlg : g < w.heap.size := by have := hS.lt; omega
  have hrb := hS.lt
  by_cases hp : pos X s + 1 < X.l.length
  · obtain ⟨hs, e⟩ := PSt.pos_on hS hp
    obtain ⟨c0, c1, c2, c3⟩ := hc (pos X s) hpl
    have hz : hasK X s k = (X.l[pos X s].kind == k) := by
      unfold hasK
      rw [decide_eq_true hs, Bool.true_and, ← e, kindAt_get hpl]
      rfl
    rw [hz]
    have hil : ((pos X s : Nat) : Int) < (X.l.length : Int) := by omega
    have hd : ((pos X s : Nat) : Int) < (lastI X : Int) := by omega
    generalize X.l[pos X s] = t at *
    obtain ⟨kd, a, ld, tx⟩ := t
    dsimp only at *
    clear CE hc hS hz e hs hp
    generalize pos X s = p at *
    obtain ⟨z, hz⟩ : ∃ z, z = (kd == k) := ⟨_, rfl⟩
    have hz' : (((kd : Nat) : Int) == ((k : Nat) : Int)) = z := by
      rw [hz]
      by_cases h : kd = k
      · subst h; simp
      · rw [show (kd == k) = false by simpa using h, beq_eq_false_iff_ne]; omega
    rw [← hz]
    clear hz
    go_enter Tryz.func118, Tryz.ntmps118
    go_wp2_with fail
    go_quiet (first
      | (go_at_call 64; exact Calls.quiet_of (CEH.out _)))
    go_wp2_with fail
    go_ret
    exact ⟨rfl, below_drewN (Below.refl _ _) _⟩
  · rw [(PSt.pos_end hS hp).1 k hk]
    have hd : decide (((pos X s : Nat) : Int) < (lastI X : Int)) = false := decide_eq_false (by omega)
    have hd2 : decide (pos X s < lastI X) = false := decide_eq_false (by omega)
    clear CE hc hS hp
    generalize pos X s = p at *
    go_enter Tryz.func118, Tryz.ntmps118
    go_wp2_with fail
    go_quiet (first
      | (go_at_call 64; exact Calls.quiet_of (CEH.out _)))
    go_wp2_with fail
    go_ret
    exact ⟨rfl, below_drewN (Below.refl _ _) _⟩
end Pg
end Go.Proofs.YtiabkkdeonepgaaGreatDoor
namespace Go.Proofs.YtiabkkdeonepgaaGreatDoor
open Go.RowKit
namespace Pg
open Ps
def takeS (X : Cx) (s : Sd) (x : List UInt8) : Sd := if tk X s x = true then (s.1 + 1, s.2) else s
def wantS (X : Cx) (s : Sd) (x : List UInt8) : Sd := wantM X.l s.2 s.1 x
def wordS (X : Cx) (s : Sd) : Sd := (wordM X.l s.2 ⟨0, 0, 0, e0, 0⟩ s.1).2
def wat (X : Cx) (s : Sd) : Nat := if hasK X s 1 = true then s.1 else lastI X
theorem wantS_eq (X : Cx) (s : Sd) (x : List UInt8) : wantS X s x = if tk X s x = true then (s.1 + 1, s.2) else failS s := by
  obtain ⟨i, b⟩ := s
  unfold wantS wantM tk failS
  dsimp only
  by_cases hb : 0 ≤ b
  · rw [if_pos hb, decide_eq_false (by omega), if_neg (by simp), if_pos hb]
  · rw [if_neg hb, decide_eq_true (by omega), if_neg hb]
    simp only [Bool.true_and]
theorem wordS_eq (X : Cx) (s : Sd) : wordS X s = if hasK X s 1 = true then (s.1 + 1, s.2) else failS s := by
  obtain ⟨i, b⟩ := s
  unfold wordS wordM hasK failS
  dsimp only
  by_cases hb : 0 ≤ b
  · rw [if_pos hb, decide_eq_false (by omega), if_neg (by simp), if_pos hb]
  · rw [if_neg hb, decide_eq_true (by omega), if_neg hb]
    simp only [Bool.true_and, decide_eq_true_eq]
    split <;> rfl
theorem failS_bad (s : Sd) : 0 ≤ (failS s).2 := by
  unfold failS
  split
  · assumption
  · dsimp only; omega
def StepP (X : Cx) (w : World) (s : Sd) (w' : World) : Prop := PSt X w' s ∧ Fr X.rb w.heap.size w w'
set_option maxHeartbeats 2000000 in
theorem take_any (X : Cx) (s : Sd) (x : ByteArray) (w : World) (hS : PSt X w s) (hx : x.data.toList ∈ lits) :
    Calls Tryz.prog 96 #[X.p, .string x] w fun e w' => e = .returned (.bool (tk X s x.data.toList)) ∧ StepP X w (takeS X s x.data.toList) w' := by
  have HS := Lib.hid hS
  have hl := hS.len
  have hla := hS.last
  have hpl := hS.pos_lt
  have rr := hS.row.cell
  have rf := hS.row.thaw
  have hrb := hS.lt
  have C := tells_any X s (pos X s) x w hS hpl hx
  have hv : isM X.l (pos X s) x.data.toList = tk X s x.data.toList := by
    by_cases hp : pos X s + 1 < X.l.length
    · obtain ⟨hs, e⟩ := PSt.pos_on hS hp
      unfold tk
      rw [e, decide_eq_true hs, Bool.true_and]
    · rw [(PSt.pos_end hS hp).2]
      cases hm : isM X.l (pos X s) x.data.toList
      · rfl
      · exact absurd (isM_next hS.wf.toWf hm) hp
  rw [hv] at C
  unfold takeS
  cases q : tk X s x.data.toList
  · rw [q] at C
    have CH := Lib.hid C
    rw [if_neg (by simp)]
    clear C hS hv q
    generalize pos X s = p at *
    go_enter Tryz.func96, Tryz.ntmps96
    go_wp2_with fail
    refine CH.out.mono ?_
    rintro e w1 ⟨rfl, hb⟩
    have HS1 := Lib.hid (HS.out.below hb)
    have HF := Lib.hid (Fr.of (rb := X.rb) hb)
    clear hb
    go_wp2_with fail
    go_ret
    exact ⟨rfl, HS1.out, HF.out⟩
  · rw [q] at C
    have CH := Lib.hid C
    rw [if_pos rfl]
    obtain ⟨hs, hm⟩ := tk_good q
    have hnx := isM_next hS.wf.toWf hm
    have e : pos X s = s.1 := by unfold pos; rw [if_neg (by omega)]
    have HN := Lib.hid hnx
    have HH := Lib.hid hs
    have e1 : IntKind.i64.wrap (((pos X s : Nat) : Int) + 1) = ((s.1 + 1 : Nat) : Int) := by rw [IntKind.wrap_i64, e]; omega
    clear C hS hv q hm hs hnx e
    obtain ⟨p, hp⟩ : ∃ p, p = pos X s := ⟨_, rfl⟩
    rw [← hp] at CH rr e1 hpl
    obtain ⟨j, hj⟩ : ∃ j, j = s.1 + 1 := ⟨_, rfl⟩
    rw [← hj] at e1
    have HJ := Lib.hid hj
    have HP := Lib.hid hp
    clear hj hp
    go_enter Tryz.func96, Tryz.ntmps96
    go_wp2_with fail
    refine CH.out.mono ?_
    rintro e w1 ⟨rfl, hb⟩
    have HS1 := Lib.hid ((HS.out.below hb).go HH.out HN.out)
    have HF := Lib.hid (Fr.of (rb := X.rb) hb)
    have r1 := (HS.out.below hb).row.cell
    rw [← HP.out] at r1
    have f1 := (HS.out.below hb).row.thaw
    clear hb rr rf
    go_wp2_with fail
    go_ret
    refine ⟨rfl, ?_, HF.out.put 1 _⟩
    rw [HJ.out]
    exact HS1.out
abbrev nv0 : Value := .agg #[.int .i64 0, .int .i64 0, .int .i64 0, .string ⟨#[]⟩, .int .i64 0, .slice none 0 0]
abbrev nvv (h : Hd) (A : Option Addr) (n cap : Nat) : Value := .agg #[.int .i64 h.kind, .int .i64 h.fro, .int .i64 h.til, .string h.word, .int .i64 h.at_, .slice A n cap]
abbrev ncc (h : Hd) (A : Option Addr) (n cap : Nat) : Array Value := #[.int .i64 h.kind, .int .i64 h.fro, .int .i64 h.til, .string h.word, .int .i64 h.at_, .slice A n cap]
set_option maxHeartbeats 2000000 in
theorem fail_any (X : Cx) (s : Sd) (w : World) (hS : PSt X w s) :
    Calls Tryz.prog 65 #[X.p] w fun e w' => e = .returned nv0 ∧ StepP X w (failS s) w' := by
  have HS := Lib.hid hS
  have hl := hS.len
  have hla := hS.last
  have hrb := hS.lt
  have hpl := hS.pos_lt
  have rr := hS.row.cell
  have rf := hS.row.thaw
  by_cases hs : 0 ≤ s.2
  · have hd : decide (0 ≤ s.2) = true := decide_eq_true hs
    rw [hd] at rr
    have HH := Lib.hid hs
    clear hS hs hd
    have S1 := Lib.hid (HS.out.alloc (.cells #[.int .i64 0, .int .i64 0, .int .i64 0, .string ⟨#[]⟩, .int .i64 0, .slice none 0 0] 25))
    have CE := Lib.hid (end_any X s _ S1.out)
    go_enter Tryz.func65, Tryz.ntmps65
    go_wp2_with fail
    refine CE.out.mono ?_
    rintro e w1 ⟨rfl, hb⟩
    have HS1 := Lib.hid ((S1.out.below hb).stay HH.out)
    have r1 := (S1.out.below hb).row.cell
    have f1 := (S1.out.below hb).row.thaw
    have RN := (RowB.new w 25 #[.int .i64 0, .int .i64 0, .int .i64 0, .string ⟨#[]⟩, .int .i64 0, .slice none 0 0]).below hb (by simp)
    have n1 := RN.cell
    have n2 := RN.thaw
    have HF := Lib.hid ((Fr.of (rb := X.rb) (bel1 w (.cells #[.int .i64 0, .int .i64 0, .int .i64 0, .string ⟨#[]⟩, .int .i64 0, .slice none 0 0] 25))).trans ((Fr.of (rb := X.rb) hb).mono (by simp)))
    have hne : w.heap.size ≠ X.rb := by omega
    clear hb rr rf RN
    go_wp2
    refine bodyPost_ret ?_ rfl ⟨rfl, ?_⟩
    · simp [results, Tryz.results65, go_sem, *]
    · constructor
      · refine PSt.far (PSt.far (PSt.far (PSt.far (PSt.far (PSt.far HS1.out ?_ _) ?_ _) ?_ _) ?_ _) ?_ _) ?_ _ <;> exact hrb
      · refine Fr.setCell (Fr.setCell (Fr.setCell (Fr.setCell (Fr.setCell (Fr.setCell (HF.out.put 1 _) ?_ _) ?_ _) ?_ _) ?_ _) ?_ _) ?_ _ <;> exact Nat.le_refl _
  · have hd : decide (0 ≤ s.2) = false := decide_eq_false hs
    have hp : pos X s = s.1 := by unfold pos; rw [if_neg hs]
    have hw : wrong s = 0 := by unfold wrong; rw [if_neg hs]
    rw [hd, hp, hw] at rr
    have HH := Lib.hid (show s.2 < 0 by omega)
    have hrow := hS.row
    rw [hd, hp, hw] at hrow
    clear hS hs hd hp hw hpl
    obtain ⟨p, hp⟩ : ∃ p, p = s.1 := ⟨_, rfl⟩
    rw [← hp] at rr hrow
    have HP := Lib.hid hp
    clear hp
    have R1 := Lib.hid (((hrow.put 2 (.bool true)).put 3 (.int .i64 (p : Int))).alloc (.cells #[.int .i64 0, .int .i64 0, .int .i64 0, .string ⟨#[]⟩, .int .i64 0, .slice none 0 0] 25))
    have CE := Lib.hid (end_rawB X _ _ _ _ R1.out hla hl.2)
    have B0 := Lib.hid ((bel_put (bel_put (Below.refl X.rb w) 2 (.bool true)) 3 (.int .i64 (p : Int))).alloc (by simp [World.setCell]; omega) (.cells #[.int .i64 0, .int .i64 0, .int .i64 0, .string ⟨#[]⟩, .int .i64 0, .slice none 0 0] 25))
    have HF := Lib.hid (Fr.alloc (((Fr.refl X.rb w.heap.size w).put 2 (.bool true)).put 3 (.int .i64 (p : Int))) (by simp [World.setCell]) (.cells #[.int .i64 0, .int .i64 0, .int .i64 0, .string ⟨#[]⟩, .int .i64 0, .slice none 0 0] 25))
    have RN : RowB (((w.setCell ⟨X.rb, 2, none⟩ (.bool true)).setCell ⟨X.rb, 3, none⟩ (.int .i64 (p : Int))).alloc (.cells #[.int .i64 0, .int .i64 0, .int .i64 0, .string ⟨#[]⟩, .int .i64 0, .slice none 0 0] 25)) w.heap.size 25 #[.int .i64 0, .int .i64 0, .int .i64 0, .string ⟨#[]⟩, .int .i64 0, .slice none 0 0] := by
      have := RowB.new ((w.setCell ⟨X.rb, 2, none⟩ (.bool true)).setCell ⟨X.rb, 3, none⟩ (.int .i64 (p : Int))) 25 #[.int .i64 0, .int .i64 0, .int .i64 0, .string ⟨#[]⟩, .int .i64 0, .slice none 0 0]
      simpa [World.setCell] using this
    have RNH := Lib.hid RN
    clear hrow RN
    go_enter Tryz.func65, Tryz.ntmps65
    go_wp2_with fail
    refine CE.out.mono ?_
    rintro e w2 ⟨rfl, hb⟩
    have hb := Lib.hid hb
    have R2 := Lib.hid (R1.out.below hb.out R1.out.lt)
    have B2 := Lib.hid (B0.out.trans (hb.out.mono (by have := R1.out.lt; omega)))
    have HF2 := Lib.hid (HF.out.trans ((Fr.of (rb := X.rb) hb.out).mono (by simp [World.setCell])))
    have RN2 := RNH.out.below hb.out RNH.out.lt
    have r1 := R2.out.cell
    have f1 := R2.out.thaw
    have n1 := RN2.cell
    have n2 := RN2.thaw
    have hne : w.heap.size ≠ X.rb := by omega
    clear RNH RN2 HF hb B0 CE R1 rr rf
    go_wp2
    refine bodyPost_ret ?_ rfl ⟨rfl, ?_⟩
    · simp [results, Tryz.results65, go_sem, *]
    · have S3 : PSt X (w2.setCell ⟨X.rb, 1, none⟩ (.int .i64 (lastI X : Int))) (failS s) := HS.out.mk_fail HH.out (bel_put B2.out 1 _) (by
        have := R2.out.put 1 (.int .i64 (lastI X : Int))
        rw [← HP.out]
        exact this)
      constructor
      · refine PSt.far (PSt.far (PSt.far (PSt.far (PSt.far (PSt.far S3 ?_ _) ?_ _) ?_ _) ?_ _) ?_ _) ?_ _ <;> exact hrb
      · refine Fr.setCell (Fr.setCell (Fr.setCell (Fr.setCell (Fr.setCell (Fr.setCell (HF2.out.put 1 _) ?_ _) ?_ _) ?_ _) ?_ _) ?_ _) ?_ _ <;> exact Nat.le_refl _
set_option maxHeartbeats 2000000 in
theorem want_any (X : Cx) (s : Sd) (x : ByteArray) (w : World) (hS : PSt X w s) (hx : x.data.toList ∈ lits) :
    Calls Tryz.prog 117 #[X.p, .string x] w fun e w' => e = .returned (.tuple #[]) ∧ StepP X w (wantS X s x.data.toList) w' := by
  have C := take_any X s x w hS hx
  rw [wantS_eq]
  unfold takeS at C
  cases q : tk X s x.data.toList
  · rw [q, if_neg (by simp)] at C
    rw [if_neg (by simp)]
    have CH := Lib.hid C
    clear C hS q
    go_enter Tryz.func117, Tryz.ntmps117
    go_wp2_with fail
    refine CH.out.mono ?_
    rintro e w1 ⟨rfl, hS1, hF1⟩
    have CF := Lib.hid (fail_any X s w1 hS1)
    have F1 := Lib.hid hF1
    clear hS1 hF1
    go_wp2_with fail
    refine CF.out.mono ?_
    rintro e w2 ⟨rfl, hS2, hF2⟩
    have S2 := Lib.hid hS2
    have F2 := Lib.hid (F1.out.step hF2)
    clear hS2 hF2
    go_wp2_with fail
    go_end0
    exact ⟨rfl, S2.out, F2.out⟩
  · rw [q, if_pos rfl] at C
    rw [if_pos rfl]
    have CH := Lib.hid C
    clear C hS q
    go_enter Tryz.func117, Tryz.ntmps117
    go_wp2_with fail
    refine CH.out.mono ?_
    rintro e w1 ⟨rfl, hS1, hF1⟩
    have S1 := Lib.hid hS1
    have F1 := Lib.hid hF1
    clear hS1 hF1
    go_wp2_with fail
    go_end0
    exact ⟨rfl, S1.out, F1.out⟩
theorem wat_lt {X : Cx} {w : World} {s : Sd} (h : PSt X w s) : wat X s < X.l.length := by
  unfold wat
  split
  · rename_i hh
    unfold hasK at hh
    rw [Bool.and_eq_true, decide_eq_true_eq] at hh
    exact h.ib hh.1
  · have := h.last; omega
set_option maxHeartbeats 2000000 in
theorem word_any (X : Cx) (s : Sd) (w : World) (hS : PSt X w s) :
    Calls Tryz.prog 99 #[X.p] w fun e w' => e = .returned (.int .i64 (wat X s : Int)) ∧ StepP X w (wordS X s) w' := by
  have C := has_any X s 1 w hS (by decide) (by decide)
  have HS := Lib.hid hS
  have hl := hS.len
  rw [wordS_eq]
  unfold wat
  cases q : hasK X s 1
  · rw [q] at C
    rw [if_neg (by simp), if_neg (by simp)]
    have CH := Lib.hid C
    clear C hS q
    go_enter Tryz.func99, Tryz.ntmps99
    go_wp2_with fail
    refine CH.out.mono ?_
    rintro e w1 ⟨rfl, hb⟩
    have CF := Lib.hid (fail_any X s w1 (HS.out.below hb))
    have F1 := Lib.hid (Fr.of (rb := X.rb) hb)
    clear hb
    go_wp2_with fail
    refine CF.out.mono ?_
    rintro e w2 ⟨rfl, hS2, hF2⟩
    have S2 := Lib.hid hS2
    have F2 := Lib.hid (F1.out.step hF2)
    have CE := Lib.hid (end_any X (failS s) w2 hS2)
    clear hS2 hF2
    go_wp2_with fail
    refine CE.out.mono ?_
    rintro e w3 ⟨rfl, hb3⟩
    have S3 := Lib.hid (S2.out.below hb3)
    have F3 := Lib.hid (F2.out.step (Fr.of hb3))
    clear hb3
    go_wp2_with fail
    go_ret
    exact ⟨rfl, S3.out, F3.out⟩
  · rw [q] at C
    rw [if_pos rfl, if_pos rfl]
    have CH := Lib.hid C
    have hs : s.2 < 0 ∧ kindAt X.l s.1 = 1 := by
      unfold hasK at q
      rw [Bool.and_eq_true, decide_eq_true_eq, decide_eq_true_eq] at q
      exact q
    have hnx := kindAt_next hS.wf.toWf (show kindAt X.l s.1 ≠ 0 by omega)
    have hp : pos X s = s.1 := by unfold pos; rw [if_neg (by omega)]
    have HN := Lib.hid hnx
    have HH := Lib.hid hs.1
    obtain ⟨p, hpp⟩ : ∃ p, p = s.1 := ⟨_, rfl⟩
    obtain ⟨j, hj⟩ : ∃ j, j = s.1 + 1 := ⟨_, rfl⟩
    have e1 : IntKind.i64.wrap ((p : Int) + 1) = (j : Int) := by rw [IntKind.wrap_i64]; omega
    have e2 : IntKind.i64.wrap ((j : Int) - 1) = (p : Int) := by rw [IntKind.wrap_i64]; omega
    rw [← hpp] at hp ⊢
    have HP := Lib.hid hp
    have HJ := Lib.hid hj
    have HPP := Lib.hid hpp
    clear C hS q hs hnx hp hj hpp
    go_enter Tryz.func99, Tryz.ntmps99
    go_wp2_with fail
    refine CH.out.mono ?_
    rintro e w1 ⟨rfl, hb⟩
    have HS1 := Lib.hid ((HS.out.below hb).go HH.out HN.out)
    have HF := Lib.hid (Fr.of (rb := X.rb) hb)
    have r1 := (HS.out.below hb).row.cell
    rw [HP.out] at r1
    have f1 := (HS.out.below hb).row.thaw
    clear hb
    go_wp2_with fail
    go_ret
    refine ⟨rfl, ?_, HF.out.put 1 _⟩
    rw [HJ.out, HPP.out]
    exact HS1.out
end Pg
end Go.Proofs.YtiabkkdeonepgaaGreatDoor
namespace Go.Proofs.YtiabkkdeonepgaaGreatDoor
open Go.RowKit
namespace Pg
open Ps
theorem take_no (X : Cx) (s : Sd) (x : ByteArray) (w : World) (hS : PSt X w s) (hx : x.data.toList ∈ lits) (q : tk X s x.data.toList = false) :
    Calls Tryz.prog 96 #[X.p, .string x] w fun e w' => e = .returned (.bool false) ∧ StepP X w s w' := by
  have h := take_any X s x w hS hx
  unfold takeS at h
  rw [q, if_neg (by simp)] at h
  exact h
theorem take_yes (X : Cx) (s : Sd) (x : ByteArray) (w : World) (hS : PSt X w s) (hx : x.data.toList ∈ lits) (q : tk X s x.data.toList = true) :
    Calls Tryz.prog 96 #[X.p, .string x] w fun e w' => e = .returned (.bool true) ∧ StepP X w (s.1 + 1, s.2) w' := by
  have h := take_any X s x w hS hx
  unfold takeS at h
  rw [q, if_pos rfl] at h
  exact h
theorem below_put6 {B g : Nat} {w w' : World} (h : Below B w w') (hg : B ≤ g) (u0 u1 u2 u3 u4 u5 : Value) : Below B w ((((((w'.setCell ⟨g, 0, none⟩ u0).setCell ⟨g, 1, none⟩ u1).setCell ⟨g, 2, none⟩ u2).setCell ⟨g, 3, none⟩ u3).setCell ⟨g, 4, none⟩ u4).setCell ⟨g, 5, none⟩ u5) :=
  Below.setCell (p := ⟨g, 5, none⟩) (Below.setCell (p := ⟨g, 4, none⟩) (Below.setCell (p := ⟨g, 3, none⟩) (Below.setCell (p := ⟨g, 2, none⟩) (Below.setCell (p := ⟨g, 1, none⟩) (Below.setCell (p := ⟨g, 0, none⟩) h hg u0) hg u1) hg u2) hg u3) hg u4) hg u5
abbrev zcc : Array Value := #[.int .i64 0, .int .i64 0, .int .i64 0, .string ⟨#[]⟩, .int .i64 0, .slice none 0 0]
set_option maxHeartbeats 2000000 in
theorem node_any (X : Cx) (s : Sd) (kd fr : Nat) (A : Option Addr) (n c : Nat) (w : World) (hS : PSt X w s) :
    Calls Tryz.prog 67 #[X.p, .int .i64 kd, .int .i64 fr, .slice A n c] w fun e w' => e = .returned (nvv ⟨kd, fr, pos X s, e0, 0⟩ A n c) ∧ Below w.heap.size w w' := by
  have rr := hS.row.cell
  have hrb := hS.lt
  have hpl := hS.pos_lt
  have hl := hS.len
  clear hS
  generalize pos X s = p at *
  go_enter Tryz.func67, Tryz.ntmps67
  go_wp2
  refine bodyPost_ret ?_ rfl ⟨rfl, ?_⟩
  · simp [results, Tryz.results67, go_sem]
    rfl
  · exact (bel1 _ _)
set_option maxHeartbeats 4000000 in
theorem named_any (X : Cx) (s : Sd) (kd fr a : Nat) (A : Option Addr) (n c : Nat) (w : World) (hS : PSt X w s) (ha : a < X.l.length) :
    Calls Tryz.prog 98 #[X.p, .int .i64 kd, .int .i64 fr, .int .i64 a, .slice A n c] w fun e w' => e = .returned (nvv ⟨kd, fr, pos X s, textAt X.l a, a⟩ A n c) ∧ Below w.heap.size w w' := by
  have HS := Lib.hid hS
  have hrb := hS.lt
  have hpl := hS.pos_lt
  have hl := hS.len
  have htx := textAt_get ha
  have CN := Lib.hid (node_any X s kd fr A n c _ (hS.alloc (.cells #[.int .i64 0, .int .i64 0, .int .i64 0, .string ⟨#[]⟩, .int .i64 0, .slice none 0 0] 25)))
  have hil : (a : Int) < (X.l.length : Int) := by omega
  have hcap := hS.cap
  obtain ⟨x, hx⟩ : ∃ x, x = textAt X.l a := ⟨_, rfl⟩
  rw [← hx] at htx ⊢
  clear hS hx
  generalize pos X s = p at *
  go_enter Tryz.func98, Tryz.ntmps98
  go_wp2_with fail
  refine CN.out.mono ?_
  rintro e w1 ⟨rfl, hb⟩
  have S1 := (HS.out.alloc (.cells #[.int .i64 0, .int .i64 0, .int .i64 0, .string ⟨#[]⟩, .int .i64 0, .slice none 0 0] 25)).below hb
  obtain ⟨g, eg, lg, hc⟩ := S1.toks
  obtain ⟨c0, c1, c2, c3⟩ := hc a ha
  have rr := S1.row.cell
  rw [eg] at rr
  rw [← htx] at c3
  have hlt := S1.lt
  have hsz : w.heap.size < w1.heap.size := by have := hb.size; simp at this; omega
  have hB := Lib.hid ((bel1 w (.cells #[.int .i64 0, .int .i64 0, .int .i64 0, .string ⟨#[]⟩, .int .i64 0, .slice none 0 0] 25)).trans (hb.mono (by simp)))
  have RN := (RowB.new w 25 #[.int .i64 0, .int .i64 0, .int .i64 0, .string ⟨#[]⟩, .int .i64 0, .slice none 0 0]).below hb (by simp)
  have n1 := RN.cell
  have n2 := RN.thaw
  have hne : g < w1.heap.size := by omega
  clear hb S1 RN htx hc c0 c1 c2
  go_wp2
  refine bodyPost_ret ?_ rfl ⟨rfl, ?_⟩
  · simp [results, Tryz.results98, go_sem, *]
    try rfl
  · exact (below_put6 hB.out (Nat.le_refl _) _ _ _ _ _ _).alloc (by simp [World.setCell]; omega) _
set_option maxHeartbeats 4000000 in
theorem leaf_any (X : Cx) (s : Sd) (kd : Nat) (w : World) (hS : PSt X w s) (hs : s.2 < 0) (hn : s.1 + 1 < X.l.length) :
    Calls Tryz.prog 167 #[X.p, .int .i64 kd] w fun e w' => e = .returned (nvv ⟨kd, s.1, s.1 + 1, textAt X.l s.1, s.1⟩ none 0 0) ∧ StepP X w (s.1 + 1, s.2) w' := by
  have hp : pos X s = s.1 := by unfold pos; rw [if_neg (by omega)]
  have hp2 : pos X (s.1 + 1, s.2) = s.1 + 1 := by unfold pos; rw [if_neg (by dsimp only; omega)]
  have hl := hS.len
  have hrb := hS.lt
  have rr := hS.row.cell
  have rf := hS.row.thaw
  rw [hp] at rr
  obtain ⟨p, hpp⟩ : ∃ p, p = s.1 := ⟨_, rfl⟩
  obtain ⟨j, hj⟩ : ∃ j, j = s.1 + 1 := ⟨_, rfl⟩
  have e1 : IntKind.i64.wrap ((p : Int) + 1) = (j : Int) := by rw [IntKind.wrap_i64]; omega
  have HS1 := Lib.hid (hS.go hs hn)
  have CN := Lib.hid (fun w' h => named_any X (s.1 + 1, s.2) kd s.1 s.1 none 0 0 w' h (by omega))
  rw [hp2, ← hj, ← hpp] at CN
  rw [← hj] at HS1
  rw [← hj, ← hpp]
  rw [← hpp] at rr
  have hpj : p < 4000 := by omega
  have LS0 := LS.start hS
  clear hS hs hn hp hp2
  clear hpp hj
  have L0 := Lib.hid ((LS0.step HS1.out ((Fr.refl _ _ _).put 1 (.int .i64 (j : Int)))).alloc w.heap.size (by simp [World.setCell]) 25 zcc)
  clear LS0
  go_enter Tryz.func167, Tryz.ntmps167
  go_wp2_with fail
  refine (CN.out _ L0.out.st).mono ?_
  rintro e w1 ⟨rfl, hb⟩
  have L1 := Lib.hid (L0.out.other hb)
  have r1 := (L1.out.row 0 rfl).cell
  have t1 := (L1.out.row 0 rfl).thaw
  have L2 := Lib.hid (L1.out.put6 0 rfl rfl (.int .i64 kd) (.int .i64 p) (.int .i64 j) (.string (textAt X.l p)) (.int .i64 p) (.slice none 0 0))
  clear hb
  go_wp2
  refine bodyPost_ret ?_ rfl ⟨rfl, L2.out.st, L2.out.fr⟩
  simp [results, Tryz.results167, go_sem, *]
end Pg
end Go.Proofs.YtiabkkdeonepgaaGreatDoor
namespace Go.Proofs.YtiabkkdeonepgaaGreatDoor
open Go.RowKit
namespace Pg
open Ps
def NodeQ (X : Cx) (w : World) (r : Fo × Sd) (e : Ending) (w' : World) : Prop :=
  ∃ h k A cap, e = .returned (nvv h A k.len cap) ∧ KV w' (fun g => w.heap.size ≤ g) k A cap ∧ PSt X w' r.2 ∧ Fr X.rb w.heap.size w w' ∧ (r.2.2 < 0 → r.1 = .one h k)
def RuleQ (X : Cx) (P : Prop) (M : Sd → Res) (fn : Nat) : Prop := ∀ (s : Sd) (w : World) (r : Fo × Sd), (s.2 < 0 → P ∧ M s = some r) → (0 ≤ s.2 → r.2.2 = s.2) → PSt X w s →
  Calls Tryz.prog fn #[X.p] w (NodeQ X w r)
abbrev exR (X : Cx) (f : Nat) (t : XT) : Sd → Res := fun s => exM X.l f t s.2 s.1
theorem KV.two {w : World} {P : Nat → Prop} {h1 h2 : Hd} {k1 k2 : Fo} {A1 A2 : Option Addr} {c1 c2 : Nat} (a : KV w P k1 A1 c1) (b : KV w P k2 A2 c2) :
    FC w P ((Fo.one h1 k1).app (.one h2 k2)) (#[Value.int .i64 h1.kind, .int .i64 h1.fro, .int .i64 h1.til, .string h1.word, .int .i64 h1.at_, .slice A1 k1.len c1, .int .i64 h2.kind, .int .i64 h2.fro, .int .i64 h2.til, .string h2.word, .int .i64 h2.at_, .slice A2 k2.len c2] : Array Value).toList :=
  FC.app _ _ (FC.one a) (FC.one b)
theorem KV.three {w : World} {P : Nat → Prop} {h1 h2 h3 : Hd} {k1 k2 k3 : Fo} {A1 A2 A3 : Option Addr} {c1 c2 c3 : Nat} (a : KV w P k1 A1 c1) (b : KV w P k2 A2 c2) (c : KV w P k3 A3 c3) :
    FC w P ((Fo.one h1 k1).app ((Fo.one h2 k2).app (.one h3 k3))) (#[Value.int .i64 h1.kind, .int .i64 h1.fro, .int .i64 h1.til, .string h1.word, .int .i64 h1.at_, .slice A1 k1.len c1, .int .i64 h2.kind, .int .i64 h2.fro, .int .i64 h2.til, .string h2.word, .int .i64 h2.at_, .slice A2 k2.len c2, .int .i64 h3.kind, .int .i64 h3.fro, .int .i64 h3.til, .string h3.word, .int .i64 h3.at_, .slice A3 k3.len c3] : Array Value).toList :=
  FC.app _ _ (FC.one a) (FC.app _ _ (FC.one b) (FC.one c))
theorem pos_good {X : Cx} {s : Sd} (h : s.2 < 0) : pos X s = s.1 := by unfold pos; rw [if_neg (by omega)]
def InvL (X : Cx) (P : Prop) (r : Fo × Sd) (p fk : Nat) (T : Fo → XT) (sk : Sd) (h : Hd) (k : Fo) : Prop := (sk.2 < 0 → P ∧ h.fro = p ∧ exM X.l fk (T (.one h k)) sk.2 sk.1 = some r) ∧ (0 ≤ sk.2 → r.2.2 = sk.2)
theorem PSt.to {X : Cx} {w : World} {s s' : Sd} (h : PSt X w s) (h1 : s.2 < 0 → s' = s) (h2 : 0 ≤ s.2 → s'.2 = s.2) : PSt X w s' := by
  by_cases hs : s.2 < 0
  · rw [h1 hs]; exact h
  · have hs' : 0 ≤ s.2 := by omega
    have e := h2 hs'
    have hs2 : 0 ≤ s'.2 := by rw [e]; exact hs'
    have e1 : pos X s' = pos X s := by unfold pos; rw [if_pos hs2, if_pos hs']
    have e2 : wrong s' = wrong s := by unfold wrong; rw [if_pos hs2, if_pos hs', e]
    refine ⟨?_, h.toks, h.wf, h.cap, fun hh => absurd hh (by omega), by rw [e]; exact h.bb⟩
    rw [e1, e2, e]
    exact h.row
theorem expr_pure {X : Cx} {P : Prop} {f : Nat} {s : Sd} {r : Fo × Sd} (h1 : s.2 < 0 → P ∧ exR X (f + 1) .expr s = some r) (h2 : 0 ≤ s.2 → r.2.2 = s.2) :
    ∃ a : Fo × Sd, (s.2 < 0 → P ∧ exR X f .sum s = some a) ∧ (0 ≤ s.2 → a.2.2 = s.2) ∧ (0 ≤ a.2.2 → r.2.2 = a.2.2) ∧ (a.2.2 < 0 → P ∧ a.1.from_ = pos X s) ∧
      (a.2.2 < 0 → isM X.l a.2.1 sLess = false → isM X.l a.2.1 sEqEq = false → r = a) ∧
      (a.2.2 < 0 → ∀ (sg : List UInt8) (kd : Nat), (sg = sLess ∧ kd = 14 ∨ sg = sEqEq ∧ kd = 15) → isM X.l a.2.1 sg = true → ∃ c : Fo × Sd, exR X f .sum (a.2.1 + 1, a.2.2) = some c ∧ r = (.one ⟨kd, a.1.from_, c.2.1, e0, 0⟩ (a.1.app c.1), c.2)) := by
  by_cases hs : 0 ≤ s.2
  · refine ⟨(.nil, s), fun h => absurd h (by omega), fun _ => rfl, fun _ => h2 hs, fun h => absurd h (by dsimp only; omega), fun h => absurd h (by dsimp only; omega), fun h => absurd h (by dsimp only; omega)⟩
  · obtain ⟨hP, h⟩ := h1 (by omega)
    unfold exR at h
    rw [exM] at h
    obtain ⟨a, ha, h⟩ := Option.bind_eq_some_iff.1 h
    refine ⟨a, fun _ => ⟨hP, ha⟩, fun h => absurd h hs, fun hb => ?_, fun hb => ⟨hP, ?_⟩, fun hb n1 n2 => ?_, fun hb sg kd hk hm => ?_⟩
    · rw [if_pos (.inl hb)] at h; injection h with h; rw [← h]
    · rw [pos_good (by omega)]; exact exM_from _ _ _ _ _ _ rfl ha hb
    · rw [if_pos (.inr ⟨by rw [n1]; simp, by rw [n2]; simp⟩)] at h; injection h with h; exact h.symm
    · rw [if_neg (by
        rintro (h | ⟨h, h'⟩)
        · omega
        · rcases hk with ⟨rfl, _⟩ | ⟨rfl, _⟩
          · exact h hm
          · exact h' hm)] at h
      obtain ⟨c, hc, h⟩ := Option.bind_eq_some_iff.1 h
      injection h with h
      refine ⟨c, hc, ?_⟩
      rcases hk with ⟨rfl, rfl⟩ | ⟨rfl, rfl⟩
      · rw [← h, isM_ne hm (by decide), if_neg (by simp)]
      · rw [← h, hm, if_pos rfl]
end Pg
end Go.Proofs.YtiabkkdeonepgaaGreatDoor
